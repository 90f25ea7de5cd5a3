"""Bringing a row to rest by single wakings."""

from retinue.checks import check_row
from retinue.trains import reach_of


def sweep_row(beads):
    """Return the order of the wakings that bring the row to rest, and the row at rest."""
    check_row(beads)
    order = []
    now = beads
    for place in reversed(range(len(beads))):
        times, now = wake_until_still(now, place)
        order.extend([(place,)] * times)
    return order, now


def wake_until_still(beads, place):
    """Wake the bead alone as long as this changes it; return how often, and the standing then."""
    now = beads
    times = 0
    reach = reach_of(now, place)
    while reach != now.strengths[place]:
        now = now.with_strength(place, reach)
        times += 1
        reach = reach_of(now, place)
    return times, now
