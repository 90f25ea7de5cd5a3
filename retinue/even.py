"""Marks that stand as evenly as possible, and marks that rounds change as often as possible."""

from retinue.fibonacci import fibonacci
from retinue.marks import Marks
from retinue.words import arc_starts, arc_word

MOST_GOLDEN = 7


def even_marks(size, many):
    """Return so many marks on the ring, spread as evenly as possible."""
    return Marks(size, [place for place in range(size) if (place * many) % size < many])


def remainders(size, many):
    """Return the list of many and the remainders of dividing on, as Euclid does, as long as they are not 0."""
    found = []
    older, newer = size, many
    while newer != 0:
        found.append(newer)
        older, newer = newer, older % newer
    return found


def golden_marks(number):
    """Return the marks at the first beads of the arcs of a word: round number still changes them."""
    word = arc_word(number + 1)
    return Marks(len(word), arc_starts(word))


def is_golden(marks):
    """Return whether the marks are golden marks, turned by any number of places."""
    for number in range(1, MOST_GOLDEN + 1):
        if marks.size == fibonacci(number + 3):
            return _is_turned(golden_marks(number), marks)
    return False


def _is_turned(one, other):
    """Return whether the other marks are the first ones, turned by any number of places; the sizes are equal."""
    turns = [sorted([(place + turn) % one.size for place in one.places]) for turn in range(one.size)]
    return list(other.places) in turns
