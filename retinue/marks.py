"""Marks on a ring of places."""

from retinue.errors import BadMarks, CannotWipe


class Marks:
    """Marks at some places of a ring; they never change."""

    def __init__(self, size, places):
        _check_marks(size, places)
        self.size = size
        self.places = tuple(sorted(places))
        self.gaps = _gaps_of(size, self.places)

    def __len__(self):
        return len(self.places)

    def __iter__(self):
        return iter(self.places)

    def __eq__(self, other):
        return isinstance(other, Marks) and self.size == other.size and self.places == other.places


def _check_marks(size, places):
    """Raise BadMarks unless these are different places of a ring of this size, at least one."""
    if len(places) == 0:
        raise BadMarks(-1)
    for number, place in enumerate(places):
        if not 0 <= place < size or place in places[:number]:
            raise BadMarks(place)


def _gaps_of(size, places):
    """Return the tuple of the gaps of the marks at these ascending places."""
    following = places[1:] + (places[0] + size,)
    return tuple([after - place for place, after in zip(places, following)])


def wipers_of(marks):
    """Return the ascending list of the places of the marks that may wipe."""
    following = marks.gaps[1:] + marks.gaps[:1]
    # The gap of a single mark is the one that follows it, so it may not wipe.
    return [place for place, gap, after in zip(marks.places, marks.gaps, following) if gap > after]


def wipe(marks, place):
    """Return the marks after the mark at the place has wiped the next one."""
    if place not in wipers_of(marks):
        raise CannotWipe(place)
    wiped = (marks.places.index(place) + 1) % len(marks)
    return Marks(marks.size, marks.places[:wiped] + marks.places[wiped + 1:])
