"""Webs: beings whose looks tell them their strengths."""

from retinue.checks import check_handful, check_place
from retinue.errors import BadLook
from retinue.tally import tally_at
from retinue.trains import run_after
from retinue.waking import changes_at, strengths_after

PART_WORDS = ("sum", "run", "top")
LOOK_WORDS = ("all", "most", "least")


class Web:
    """Beings with looks and strengths; it never changes."""

    def __init__(self, looks, strengths):
        _check_looks(looks, len(strengths))
        self.looks = tuple([_as_tuples(look) for look in looks])
        self.strengths = tuple(strengths)


def _check_looks(looks, many):
    """Raise BadLook unless these can be the looks of so many beings."""
    if len(looks) == 0 or len(looks) != many:
        raise BadLook(-1)
    for being, look in enumerate(looks):
        if not _is_sound(look, many):
            raise BadLook(being)


def _is_sound(look, many):
    """Return whether the look has known words and fitting parts for a web of so many beings."""
    if look[0] in PART_WORDS:
        _, base, parts = look
        return base >= 0 and all([0 <= being < many and weight >= 0 for being, weight in parts])
    if look[0] in LOOK_WORDS:
        return len(look[1]) > 0 and all([_is_sound(inner, many) for inner in look[1]])
    return False


def _as_tuples(look):
    """Return the sound look with all its lists turned into tuples."""
    if look[0] in PART_WORDS:
        word, base, parts = look
        return word, base, tuple([tuple(part) for part in parts])
    return look[0], tuple([_as_tuples(inner) for inner in look[1]])


def told_to(web, being):
    """Return the number that the look of the being tells."""
    check_place(len(web.strengths), being)
    weaker = [strength < web.strengths[being] for strength in web.strengths]
    return _told_by(web.looks[being], weaker)


def _told_by(look, weaker):
    """Return the number that the look tells if exactly these beings are weaker."""
    if look[0] in PART_WORDS:
        return _told_by_parts(look, weaker)
    numbers = [_told_by(inner, weaker) for inner in look[1]]
    if look[0] == "all":
        return sum(numbers)
    if look[0] == "most":
        return max(numbers)
    return min(numbers)


def _told_by_parts(look, weaker):
    """Return the number that a look with parts tells if exactly these beings are weaker."""
    word, base, parts = look
    if word == "run":
        return base + _run_weight(parts, weaker)
    weights = [weight for being, weight in parts if weaker[being]]
    if word == "sum":
        return base + sum(weights)
    return max([base] + weights)


def _run_weight(parts, weaker):
    """Return the weight of the parts before the first one whose being is not weaker."""
    total = 0
    for being, weight in parts:
        if not weaker[being]:
            break
        total += weight
    return total


def web_changes(web, handful):
    """Return the list of the changes (being, before, after) if the handful wakes."""
    check_handful(len(web.strengths), handful)
    return changes_at(web.strengths, handful, lambda being: told_to(web, being))


def wake_web(web, handful):
    """Return the web after the handful has woken."""
    return Web(web.looks, strengths_after(web.strengths, web_changes(web, handful)))


def web_tally(web):
    """Return the tally of the web, as tally_of does for a standing."""
    told = [told_to(web, being) for being in range(len(web.strengths))]
    return tally_at(web.strengths, told)


def settle_web(web, *, limit=100):
    """Return the web after at most so many rounds, and the number of those that changed it."""
    everyone = list(range(len(web.strengths)))
    now = web
    for number in range(limit):
        after = wake_web(now, everyone)
        if after.strengths == now.strengths:
            return now, number
        now = after
    return now, limit


def web_of(beads):
    """Return the web of the standing: each being looks along the run after its bead."""
    looks = []
    for place, length in enumerate(beads.lengths):
        parts = [(other, beads.lengths[other]) for other in run_after(beads, place)]
        looks.append(("run", length, parts))
    return Web(looks, beads.strengths)
