"""Orders that settle a ring with a given cutting, and orders that bring a settled ring to rest."""

from retinue.arcs import arc_length, arcs_of, settled_cut
from retinue.ends import cut_fault
from retinue.errors import NoEnd, NotSettled, WrongStart
from retinue.starts import is_low, lowering_order
from retinue.sweeps import wake_until_still
from retinue.waking import run_order, wake


def plan_cut(beads, cut, *, hand=1):
    """Return an order of handfuls of at most hand beads that settles the ring with this cutting."""
    reason = cut_fault(beads, cut, hand=hand)
    if reason is not None:
        raise NoEnd(reason)
    length = arc_length(beads, cut)
    order = lowering_order(beads, arcs_of(beads, cut))
    if length < beads.greatest():
        # Only if all heads wake at once does each of them stop the one before it.
        return order + [tuple(cut)]
    now, _ = run_order(beads, order)
    return order + _raising_order(now, cut, length)


def _raising_order(beads, cut, length):
    """Return the order in which the weakest head wakes until all heads have the arc length.

    The head after the weakest one is strong enough to stop it, so no head
    comes to more than the arc length.
    """
    order = []
    now = beads
    head = _weakest(now, cut)
    while now.strengths[head] < length:
        order.append((head,))
        now = wake(now, [head])
        head = _weakest(now, cut)
    return order


def _weakest(beads, places):
    """Return the first of these places whose bead is the weakest of them."""
    strengths = [beads.strengths[place] for place in places]
    return places[strengths.index(min(strengths))]


def least_wakings(beads, cut):
    """Return how often the heads of the cutting must change in all, from a low ring."""
    length = arc_length(beads, cut)
    if not is_low(beads):
        raise WrongStart()
    reason = cut_fault(beads, cut)
    if reason is not None:
        raise NoEnd(reason)
    return sum([_head_wakings(beads, arc, length) for arc in arcs_of(beads, cut)])


def _head_wakings(beads, arc, length):
    """Return how often the head of the arc must change until it has the arc length."""
    strength = beads.strengths[arc[0]]
    number = 0
    while strength < length:
        strength = _sum_passed(beads, arc, strength)
        number += 1
    return number


def _sum_passed(beads, arc, strength):
    """Return the sum of the lengths of the arc before the first inner bead with at least this strength."""
    total = beads.lengths[arc[0]]
    for place in arc[1:]:
        if beads.strengths[place] >= strength:
            break
        total += beads.lengths[place]
    return total


def finish(beads):
    """Return the order of the wakings that bring the settled ring to rest, and the ring at rest."""
    cut = settled_cut(beads)
    if cut is None:
        raise NotSettled()
    order = []
    now = beads
    for arc in arcs_of(beads, cut):
        for place in reversed(arc[1:]):
            times, now = wake_until_still(now, place)
            order.extend([(place,)] * times)
    return order, now
