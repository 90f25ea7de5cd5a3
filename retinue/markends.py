"""The marks that can be left when wipings have brought marks to rest."""

from retinue.arcs import arcs_of, common_arc
from retinue.beads import Beads
from retinue.ends import cut_fault, ends_of
from retinue.errors import BadCut, NoEnd


def ring_of_marks(marks):
    """Return the ring of one bead for each mark; its length and its strength are the gap of the mark."""
    return Beads(marks.gaps, marks.gaps)


def _cut_of(marks, end):
    """Return the cutting of the ring of the marks whose heads are the marks of the end."""
    if not all([place in marks.places for place in end]):
        raise BadCut(tuple(end))
    cut = [marks.places.index(place) for place in end]
    if common_arc(ring_of_marks(marks), cut) is None:
        raise BadCut(tuple(end))
    return cut


def mark_fault(marks, end):
    """Return None if wipings can leave exactly the marks of the end, otherwise why not."""
    # No arc is shorter than a gap, so only a mark can be in the way.
    fault = cut_fault(ring_of_marks(marks), _cut_of(marks, end))
    if fault is None:
        return None
    word, head, blocked = fault
    return word, marks.places[head], marks.places[blocked]


def mark_ends(marks):
    """Return the list of all ends, by the number of their places, then by the first one."""
    return [tuple([marks.places[number] for number in cut]) for cut in ends_of(ring_of_marks(marks))]


def wipe_plan(marks, end):
    """Return the list of the places of the marks that wipe so that exactly those of the end are left."""
    reason = mark_fault(marks, end)
    if reason is not None:
        raise NoEnd(reason)
    plan = []
    # No mark blocks, so each mark of the end can wipe all others of its arc, one after another.
    for arc in arcs_of(ring_of_marks(marks), _cut_of(marks, end)):
        plan.extend([marks.places[arc[0]]] * (len(arc) - 1))
    return plan
