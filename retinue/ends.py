"""The cuttings that a low or level ring can end in."""

from retinue.arcs import arc_length, arcs_of, cuttings, least_arc
from retinue.starts import check_start, first_held, holds_of, is_level


def cut_fault(beads, cut, *, hand=1):
    """Return None if handfuls of at most hand beads can lead to the cutting, otherwise why not."""
    length = arc_length(beads, cut)
    check_start(beads)
    if is_level(beads):
        least = least_arc(beads, hand=hand)
        if length < least:
            return "short", length, least
    return _blocked(beads, cut)


def _blocked(beads, cut):
    """Return the fault that tells the first inner bead that is held back, or None."""
    holds = holds_of(beads)
    for arc in arcs_of(beads, cut):
        place = first_held(beads.lengths, holds, arc)
        if place is not None:
            return "blocked", arc[0], place
    return None


def ends_of(beads, *, hand=1):
    """Return the list of the cuttings to which handfuls of at most hand beads can lead."""
    # Each ring has cuttings, so a wrong start is told by the first of them.
    return [cut for cut in cuttings(beads) if cut_fault(beads, cut, hand=hand) is None]
