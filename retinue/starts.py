"""Low and level standings, from which the ends are known."""

from retinue.errors import WrongStart


def is_low(beads):
    """Return whether no bead has a strength greater than its own length."""
    return all([strength <= length for strength, length in zip(beads.strengths, beads.lengths)])


def is_level(beads):
    """Return whether all strengths are equal."""
    return min(beads.strengths) == max(beads.strengths)


def check_start(beads):
    """Raise WrongStart if the standing is neither low nor level."""
    if not is_low(beads) and not is_level(beads):
        raise WrongStart()


def holds_of(beads):
    """Return for each bead of a low or level standing the greatest sum that holds it back.

    Every lesser sum holds it back, too. No sum is less than 1, so 0 stands for
    a bead that no sum holds back.
    """
    if is_low(beads):
        return list(beads.strengths)
    return [strength if length >= strength else 0
            for strength, length in zip(beads.strengths, beads.lengths)]


def first_held(lengths, holds, places):
    """Return the first bead behind the head of these places that the sum before it holds back, or None."""
    before = 0
    for place in places:
        # Nothing stands before the head, so no sum holds it back.
        if 0 < before <= holds[place]:
            return place
        before += lengths[place]
    return None


def lowering_order(beads, parts):
    """Return the order in which the inner beads of a level standing that are stronger than long wake.

    Each part has the places of a head and the inner beads behind it. A bead
    wakes before the next one, which therefore stops it: it gets its own length.
    In a low standing there are no such beads.
    """
    return [(place,) for part in parts for place in part[1:]
            if beads.lengths[place] < beads.strengths[place]]
