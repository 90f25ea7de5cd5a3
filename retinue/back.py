"""Looking back: which bead can have woken last."""

from retinue.checks import check_place
from retinue.forest import span_of
from retinue.trains import run_after


def strengths_before(beads, place):
    """Return the pair of the least and greatest strength before the bead woke alone, or None."""
    check_place(len(beads), place)
    span = span_of(beads, place)
    if span is None:
        return None
    low = 1 + max([beads.strengths[other] for other in span[1:]], default=-1)
    run = run_after(beads, place)
    if len(span) > len(run):
        return low, None
    high = beads.strengths[run[len(span) - 1]]
    return (low, high) if low <= high else None


def last_wakers(beads):
    """Return the ascending list of the places that can have woken last, alone, and have changed."""
    places = []
    for place, strength in enumerate(beads.strengths):
        # If only the strength that the bead has now is possible, waking did not change it.
        if strengths_before(beads, place) not in (None, (strength, strength)):
            places.append(place)
    return places
