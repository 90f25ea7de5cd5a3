"""Rounds of marks, and the marks from which a round leads to given ones."""

from retinue.arcs import offsets_of
from retinue.checks import check_index
from retinue.choices import choice_at, product_of, split_index
from retinue.marks import Marks


def mark_round(marks):
    """Return the marks with the greatest gap, which are those that a round keeps."""
    greatest = max(marks.gaps)
    return Marks(marks.size, [place for place, gap in zip(marks.places, marks.gaps) if gap == greatest])


def mark_rounds(marks):
    """Return the list of the places at the start and after each round that changes something."""
    rows = [marks.places]
    now = mark_round(marks)
    while now.places != rows[-1]:
        rows.append(now.places)
        now = mark_round(now)
    return rows


def _row_counts(limit, most):
    """Return for each sum from 0 to most the number of rows of gaps less than the limit with this sum."""
    counts = [1]
    for total in range(1, most + 1):
        # The gap that comes first leaves one of these sums for the others.
        counts.append(sum(counts[max(0, total - limit + 1):]))
    return counts


def _gap_ways(marks, greatest):
    """Return for each gap the number of ways to replace it by the greatest gap and lesser ones behind it."""
    counts = _row_counts(greatest, max(marks.gaps))
    return [counts[gap - greatest] for gap in marks.gaps]


def _numbers_before(marks):
    """Return the numbers of Marks before these, one for each greatest gap that they can have, from 1 on."""
    return [product_of(_gap_ways(marks, greatest)) for greatest in range(1, min(marks.gaps) + 1)]


def count_before(marks):
    """Return the number of Marks that one round turns into these."""
    return sum(_numbers_before(marks))


def before_at(marks, index):
    """Return the Marks at this index among those that one round turns into these."""
    numbers = _numbers_before(marks)
    check_index(index, sum(numbers))
    choice, left = choice_at(numbers, index)
    greatest = choice + 1
    gaps = []
    for gap, own in zip(marks.gaps, split_index(_gap_ways(marks, greatest), left)):
        gaps.append(greatest)
        gaps.extend(_row_at(greatest, gap - greatest, own))
    places = [(marks.places[0] + offset) % marks.size for offset in offsets_of(gaps)]
    return Marks(marks.size, places)


def _row_at(limit, total, index):
    """Return the row of gaps at this index among those less than the limit with this sum."""
    counts = _row_counts(limit, total)
    gaps = []
    rest = total
    left = index
    while rest > 0:
        numbers = [counts[rest - gap] for gap in range(1, min(limit - 1, rest) + 1)]
        choice, left = choice_at(numbers, left)
        gaps.append(choice + 1)
        rest -= choice + 1
    return gaps
