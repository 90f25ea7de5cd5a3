"""What can be told of a row at rest of which only some strengths are seen."""

from retinue.checks import check_place, check_seen
from retinue.rests import count_rests, rest_at


def possible(lengths, seen, place):
    """Return the ascending list of the strengths of the bead in the rows at rest that agree."""
    check_seen(lengths, seen)
    check_place(len(lengths), place)
    sums = [sum(lengths[place:end]) for end in range(place + 1, len(lengths) + 1)]
    if seen is not None and seen[place] is not None:
        sums = [strength for strength in sums if strength == seen[place]]
    return [strength for strength in sums if _count_with(lengths, seen, place, strength) > 0]


def _count_with(lengths, seen, place, strength):
    """Return the number of the rows at rest that agree if the bead is seen with this strength."""
    items = [None] * len(lengths) if seen is None else list(seen)
    items[place] = strength
    return count_rests(lengths, items)


def sure_places(lengths, seen):
    """Return the list of the pairs (place, strength) that are the same in all rows at rest that agree."""
    count = count_rests(lengths, seen)
    if count == 0:
        return []
    # What is the same in all rows is the same in the first one.
    first = rest_at(lengths, 0, seen)
    return [(place, strength) for place, strength in enumerate(first.strengths)
            if _count_with(lengths, seen, place, strength) == count]
