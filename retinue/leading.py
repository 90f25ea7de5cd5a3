"""Rings that come to rest with one leader."""

from retinue.arcs import settled_cut
from retinue.checks import check_place, check_ring
from retinue.errors import CannotLead, Locked, NotTall
from retinue.trains import leaders_of, reach_of
from retinue.waking import wake


def locked_heads(beads):
    """Return the cutting of the locked ring, or None if the ring is not locked."""
    cut = settled_cut(beads)
    return cut if cut is not None and len(cut) > 1 else None


def lead_plan(beads):
    """Return an order of single wakings after which the greatest strength is at least the total."""
    heads = locked_heads(beads)
    if heads is not None:
        raise Locked(heads)
    order = []
    now = beads
    while now.greatest() < now.total():
        leader = _next_waker(now)
        order.append((leader,))
        now = wake(now, [leader])
    return order


def _next_waker(beads):
    """Return the leader that wakes next, in a ring that is not locked.

    A leader that rises becomes the only one, and then reaches the whole ring.
    One that falls leaves its arc to the leader before it. It is chosen so that
    the ring does not become locked: either the leader before it can rise then,
    or all arcs are too short for that.
    """
    greatest = beads.greatest()
    leaders = leaders_of(beads)
    told = [reach_of(beads, leader) for leader in leaders]
    for leader, reach in zip(leaders, told):
        if reach > greatest:
            return leader
    for number, leader in enumerate(leaders):
        if told[number - 1] == greatest and told[number] < greatest:
            return leader
    return leaders[0]


def can_lead(beads):
    """Return the ascending list of the places of the tall ring that can become the only leader."""
    check_ring(beads)
    total = beads.total()
    if beads.greatest() < total:
        raise NotTall(beads.greatest(), total)
    return [place for place, strength in enumerate(beads.strengths) if strength >= total]


def tall_plan(beads, place):
    """Return an order of single wakings after which only this bead has at least the total as strength."""
    tall = can_lead(beads)
    check_place(len(beads), place)
    if place not in tall:
        raise CannotLead(place)
    order = []
    now = beads
    for other in [rival for rival in tall if rival != place]:
        # A bead that is stronger than all others first falls to the total, and only then below it.
        while now.strengths[other] >= now.total():
            order.append((other,))
            now = wake(now, [other])
    return order
