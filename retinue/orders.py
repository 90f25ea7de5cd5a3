"""Orders in which each bead wakes once."""

from math import factorial

from retinue.beads import Beads
from retinue.checks import check_index
from retinue.choices import choice_at, product_of
from retinue.errors import BadOrder, NoOrder
from retinue.forest import check_outcome, depths_of, span_of
from retinue.waking import wake


def woken_once(lengths, order, *, ring=False):
    """Return the standing after the beads have woken alone in this order, all as strong as the total before."""
    _check_order(len(lengths), order)
    now = Beads([sum(lengths)] * len(lengths), lengths, ring=ring)
    for place in order:
        now = wake(now, [place])
    return now


def _check_order(many, order):
    """Raise BadOrder unless the order has each of the places 0 to many - 1 once."""
    for index, place in enumerate(order):
        if not 0 <= place < many or place in order[:index]:
            raise BadOrder(index)
    if len(order) < many:
        raise BadOrder(len(order))


def _first_place(beads):
    """Return the place at which the outcome begins if it is read as a row, from the only head if it is a ring."""
    check_outcome(beads)
    if not beads.ring:
        return 0
    depths = depths_of(beads)
    if depths.count(0) > 1:
        raise NoOrder()
    return depths.index(0)


def _woken_by_then(beads):
    """Return for each place the list of the places that must have woken when this bead has, itself included.

    These are one stretch: from the first one of the bead's brothers to the end of the bead's span.
    """
    first = _first_place(beads)
    many = len(beads)
    around = [(first + number) % many for number in range(many)]
    ends = [number + len(span_of(beads, place)) for number, place in enumerate(around)]
    stretches = [[]] * many
    for number, place in enumerate(around):
        stretches[place] = around[_eldest(ends, number):ends[number]]
    return stretches


def _eldest(ends, number):
    """Return where the first brother of the bead with this number stands; the spans have these ends."""
    # It stands right behind the innermost bead whose span contains this one.
    holders = [other for other in range(number) if ends[other] > number]
    return max(holders, default=-1) + 1


def _count_left(stretches, waiting):
    """Return the number of orders in which the beads that wait can wake.

    Each bead is followed by at most one other bead directly, so the beads form
    trees. Of all orders of the beads of a stretch, those in which its last one
    wakes last are one in as many as there are beads.
    """
    sizes = [len([other for other in stretches[place] if other in waiting]) for place in waiting]
    return factorial(len(waiting)) // product_of(sizes)


def count_orders(beads):
    """Return the number of orders in which each bead wakes once and which lead to this standing."""
    return _count_left(_woken_by_then(beads), list(range(len(beads))))


def order_at(beads, index):
    """Return the order at this index among those that lead to this standing."""
    stretches = _woken_by_then(beads)
    waiting = list(range(len(beads)))
    check_index(index, _count_left(stretches, waiting))
    order = []
    left = index
    while len(waiting) > 0:
        ready = _ready_among(stretches, waiting)
        numbers = [_count_left(stretches, _without(waiting, place)) for place in ready]
        choice, left = choice_at(numbers, left)
        order.append(ready[choice])
        waiting = _without(waiting, ready[choice])
    return order


def _ready_among(stretches, waiting):
    """Return those of the beads that wait that need no other one to wake before them."""
    return [place for place in waiting if [other for other in stretches[place] if other in waiting] == [place]]


def _without(places, place):
    """Return the list of the other places."""
    return [other for other in places if other != place]
