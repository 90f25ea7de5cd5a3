"""Waking handfuls of beads, rest, orders and their logs."""

from retinue.beads import Beads
from retinue.checks import check_handful
from retinue.errors import BadLog, NotAtRest
from retinue.trains import reach_of, reaches


def changes_at(strengths, handful, tell):
    """Return the changes if each place of the handful takes the strength that tell(place) tells."""
    changes = []
    for place in sorted(set(handful)):
        before = strengths[place]
        after = tell(place)
        if after != before:
            changes.append((place, before, after))
    return changes


def strengths_after(strengths, changes):
    """Return the list of the strengths after the changes."""
    found = list(strengths)
    for place, _, after in changes:
        found[place] = after
    return found


def changes_of(beads, handful):
    """Return the list of the changes (place, before, after) if the handful wakes."""
    check_handful(len(beads), handful)
    return changes_at(beads.strengths, handful, lambda place: reach_of(beads, place))


def wake(beads, handful):
    """Return the standing after the handful has woken."""
    return changed(beads, changes_of(beads, handful))


def changed(beads, changes):
    """Return the standing after the changes."""
    return Beads(strengths_after(beads.strengths, changes), beads.lengths, ring=beads.ring)


def wake_all(beads):
    """Return the standing after a round."""
    return Beads(reaches(beads), beads.lengths, ring=beads.ring)


def restless(beads):
    """Return the ascending list of the places whose reach is not their strength."""
    told = reaches(beads)
    return [place for place in range(len(beads)) if told[place] != beads.strengths[place]]


def hungry(beads):
    """Return the ascending list of the places whose reach is greater than their strength."""
    told = reaches(beads)
    return [place for place in range(len(beads)) if told[place] > beads.strengths[place]]


def at_rest(beads):
    """Return whether no bead is restless."""
    return len(restless(beads)) == 0


def check_rest(beads):
    """Raise NotAtRest with the least restless place, if there is one."""
    places = restless(beads)
    if len(places) > 0:
        raise NotAtRest(places[0])


def run_order(beads, order):
    """Return the standing after the handfuls of the order have woken, and the log."""
    now = beads
    log = []
    for handful in order:
        changes = changes_of(now, handful)
        log.append((tuple(sorted(set(handful))), changes))
        now = changed(now, changes)
    return now, log


def unwind(beads, log):
    """Return the standing that is left when the entries of the log are taken back."""
    strengths = list(beads.strengths)
    for index in reversed(range(len(log))):
        changes = log[index][1]
        if not _ends_in(changes, strengths):
            raise BadLog(index)
        for place, before, _ in changes:
            strengths[place] = before
    return Beads(strengths, beads.lengths, ring=beads.ring)


def _ends_in(changes, strengths):
    """Return whether each change names a place and the strength that it has now."""
    for place, _, after in changes:
        if not 0 <= place < len(strengths) or strengths[place] != after:
            return False
    return True
