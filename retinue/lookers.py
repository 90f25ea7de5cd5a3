"""Lookers: they look over answers, wherever these come from."""

from retinue.arcs import arc_length, is_ascending
from retinue.errors import CannotWipe
from retinue.lineage import lineage_of
from retinue.marks import wipe
from retinue.tally import compare_tallies
from retinue.waking import changed, changes_of, run_order


def order_fault(beads, order, cut):
    """Return None if the order settles the ring with this cutting, otherwise what is wrong."""
    length = arc_length(beads, cut)
    for index, handful in enumerate(order):
        if not all([0 <= place < len(beads) for place in handful]):
            return "place", index
    end, _ = run_order(beads, order)
    for head in cut:
        if end.strengths[head] != length:
            return "head", head
    for place, strength in enumerate(end.strengths):
        if place not in cut and strength >= length:
            return "bead", place
    return None


def log_fault(beads, log):
    """Return None if this is the log of an order from the standing, otherwise the index of its first wrong entry."""
    now = beads
    for index, (handful, changes) in enumerate(log):
        if not _is_handful(handful, len(now)) or changes != changes_of(now, handful):
            return index
        now = changed(now, changes)
    return None


def _is_handful(handful, many):
    """Return whether the handful is strictly ascending among the places 0 to many - 1."""
    return len(handful) == 0 or is_ascending(handful, many)


def paper_fault(paper):
    """Return the index of the first tally that is not greater than the one before it, or None."""
    for index in range(1, len(paper)):
        if compare_tallies(paper[index - 1], paper[index]) != -1:
            return index
    return None


def lineage_fault(beads, place, lineage):
    """Return None if this is the lineage of the bead, otherwise the first index at which the two differ."""
    told = lineage_of(beads, place)
    for index, (one, other) in enumerate(zip(told, lineage)):
        if one != other:
            return index
    return None if len(told) == len(lineage) else min(len(told), len(lineage))


def wipe_fault(marks, plan, end):
    """Return None if the plan leaves exactly the marks of the end, otherwise the index of what is wrong."""
    now = marks
    for index, place in enumerate(plan):
        try:
            now = wipe(now, place)
        except CannotWipe:
            return index
    return None if now.places == tuple(end) else len(plan)
