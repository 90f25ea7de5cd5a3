"""Cuttings of a ring into arcs of the same length."""

from retinue.checks import check_ring
from retinue.errors import BadCut
from retinue.trains import leaders_of
from retinue.waking import check_rest


def offsets_of(lengths):
    """Return for each place the sum of the lengths before it."""
    offsets = []
    total = 0
    for length in lengths:
        offsets.append(total)
        total += length
    return offsets


def is_ascending(cut, many):
    """Return whether the cut is not empty and strictly ascending among the places 0 to many - 1."""
    if len(cut) == 0 or cut[0] < 0 or cut[-1] >= many:
        return False
    return all([cut[k] < cut[k + 1] for k in range(len(cut) - 1)])


def cuttings(beads):
    """Return the list of all cuttings of the ring, by the number of heads, then by the first one."""
    check_ring(beads)
    total = beads.total()
    offsets = offsets_of(beads.lengths)
    place_at = {offset: place for place, offset in enumerate(offsets)}
    found = []
    for many in range(1, len(beads) + 1):
        if total % many == 0:
            found.extend(_cuttings_with(place_at, total // many, many))
    return found


def _cuttings_with(place_at, length, many):
    """Return the cuttings into so many arcs of this length; place_at gives the place of each offset."""
    found = []
    # Of the heads of a cutting only the first one has less than one arc before it.
    for first in [offset for offset in place_at if offset < length]:
        wanted = [first + number * length for number in range(many)]
        if all([offset in place_at for offset in wanted]):
            found.append(tuple([place_at[offset] for offset in wanted]))
    return found


def common_arc(beads, cut):
    """Return the arc length if these places are the heads of a cutting of the ring, otherwise None."""
    if not is_ascending(cut, len(beads)):
        return None
    offsets = offsets_of(beads.lengths)
    starts = [offsets[head] for head in cut]
    ends = starts[1:] + [starts[0] + beads.total()]
    arcs = [end - start for start, end in zip(starts, ends)]
    return arcs[0] if min(arcs) == max(arcs) else None


def arc_length(beads, cut):
    """Return the arc length of the cutting."""
    check_ring(beads)
    length = common_arc(beads, cut)
    if length is None:
        raise BadCut(tuple(cut))
    return length


def arcs_of(beads, cut):
    """Return for each head of the cutting the list of the places of its arc, the head first."""
    many = len(beads)
    ends = list(cut[1:]) + [cut[0] + many]
    return [[place % many for place in range(head, end)] for head, end in zip(cut, ends)]


def settled_cut(beads):
    """Return the cutting whose heads are the strongest beads of the settled ring, otherwise None."""
    check_ring(beads)
    leaders = leaders_of(beads)
    return tuple(leaders) if common_arc(beads, leaders) == beads.greatest() else None


def resting_cut(beads):
    """Return the cutting of the ring at rest: its leaders are the heads."""
    check_ring(beads)
    check_rest(beads)
    return tuple(leaders_of(beads))


def least_arc(beads, *, hand=1):
    """Return the less of the greatest strength and the total divided by hand, rounded up."""
    check_ring(beads)
    shared = (beads.total() + hand - 1) // hand
    return min(beads.greatest(), shared)
