"""Outcomes: the standings to which a round can lead."""

from retinue.beads import Beads
from retinue.errors import NotOutcome
from retinue.trains import run_after


def span_of(beads, place):
    """Return the list of the places in the span of the bead, or None if it has no span."""
    span = [place]
    missing = beads.strengths[place] - beads.lengths[place]
    for other in run_after(beads, place):
        if missing <= 0:
            break
        span.append(other)
        missing = missing - beads.lengths[other]
    return span if missing == 0 else None


def outcome_fault(beads):
    """Return None for an outcome, otherwise the pair of places that shows that it is none."""
    spans = [span_of(beads, place) for place in range(len(beads))]
    for place, span in enumerate(spans):
        if span is None:
            return place, place
    for place, span in enumerate(spans):
        for distance, other in enumerate(span):
            if distance + len(spans[other]) > len(span):
                return place, other
    return None


def check_outcome(beads):
    """Raise NotOutcome if the standing is not an outcome."""
    fault = outcome_fault(beads)
    if fault is not None:
        first, second = fault
        raise NotOutcome(first, second)


def origin_of(beads):
    """Return a standing that one round turns into this outcome."""
    check_outcome(beads)
    depths = depths_of(beads)
    deepest = max(depths)
    return Beads([deepest - depth for depth in depths], beads.lengths, ring=beads.ring)


def depths_of(beads):
    """Return for each bead of an outcome the number of other beads whose spans contain it."""
    depths = [0] * len(beads)
    for place in range(len(beads)):
        for other in span_of(beads, place)[1:]:
            depths[other] += 1
    return depths
