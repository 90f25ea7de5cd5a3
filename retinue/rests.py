"""The rows at rest with given lengths, counted and numbered."""

from retinue.arcs import offsets_of
from retinue.beads import Beads
from retinue.checks import check_index, check_row, check_seen
from retinue.choices import choice_at
from retinue.forest import span_of
from retinue.waking import check_rest


class RestTable:
    """The numbers of ways in which parts of a row with given lengths can be at rest and agree with seen.

    A part (before, start, limit) has the beads from start to limit - 1. They
    are brothers, one behind the other, and what the spans of these contain. The
    span of the brother before them begins at before and ends at start; if
    there is none, before is equal to start. Only parts are counted whose limit
    is at most widest behind before.
    """

    def __init__(self, lengths, seen, widest):
        self.many = len(lengths)
        self.widest = widest
        self.offsets = offsets_of(lengths) + [sum(lengths)]
        self.seen = [None] * self.many if seen is None else list(seen)
        self.ways = {}
        # A part is counted by parts that begin behind its first bead.
        for start in reversed(range(self.many + 1)):
            for before in range(max(0, start - widest), start + 1):
                self._count_parts(before, start)

    def _count_parts(self, before, start):
        """Count the ways of all parts with this before and this start."""
        self.ways[(before, start, start)] = 1
        for limit in range(start + 1, min(before + self.widest, self.many) + 1):
            self.ways[(before, start, limit)] = sum(self._numbers(before, start, limit))

    def _numbers(self, before, start, limit):
        """Return the numbers of ways of the part, one for each end of the span of the bead at start."""
        return [self._number(before, start, end, limit) for end in range(start + 1, limit + 1)]

    def _number(self, before, start, end, limit):
        """Return the number of ways of the part in which the span of the bead at start has this end."""
        if self.offsets[end] - self.offsets[start] < self.offsets[start] - self.offsets[before]:
            return 0
        return self.span_ways(start, end) * self.ways[(start, end, limit)]

    def span_ways(self, place, end):
        """Return the number of ways of the beads in the span of the bead at the place, if it has this end."""
        if self.seen[place] not in (None, self.offsets[end] - self.offsets[place]):
            return 0
        return self.ways[(place + 1, place + 1, end)]

    def whole(self):
        """Return the number of ways of the whole row."""
        return self.ways[(0, 0, self.many)]

    def strengths_at(self, index):
        """Return the list of the strengths of the row at this index."""
        return self._strengths_of(0, self._ends_at(0, 0, self.many, index))

    def _strengths_of(self, first, ends):
        """Return the list of the strengths of the beads from the first one on whose spans have these ends."""
        return [self.offsets[end] - self.offsets[first + number] for number, end in enumerate(ends)]

    def _ends_at(self, before, start, limit, index):
        """Return the list of the ends of the spans of the part, for the way at this index."""
        if start == limit:
            return []
        choice, left = choice_at(self._numbers(before, start, limit), index)
        end = start + 1 + choice
        # The beads within the span come first, so what follows them changes faster.
        inner, later = divmod(left, self.ways[(start, end, limit)])
        return self._span_ends(start, end, inner) + self._ends_at(start, end, limit, later)

    def _span_ends(self, place, end, index):
        """Return the ends of the spans of the bead and of those in its span, for the way at this index."""
        return [end] + self._ends_at(place + 1, place + 1, end, index)

    def span_strengths(self, place, end, index):
        """Return the strengths of the bead and of those in its span, for the way at this index."""
        return self._strengths_of(place, self._span_ends(place, end, index))

    def rank_of(self, ends):
        """Return the index of the row whose spans have these ends."""
        return self._rank_in(0, 0, self.many, ends)

    def _rank_in(self, before, start, limit, ends):
        """Return the index of the way in which the spans of the part have these ends."""
        if start == limit:
            return 0
        end = ends[start]
        smaller = sum(self._numbers(before, start, limit)[:end - start - 1])
        inner = self.span_rank(start, end, ends)
        return smaller + inner * self.ways[(start, end, limit)] + self._rank_in(start, end, limit, ends)

    def span_rank(self, place, end, ends):
        """Return the index of the way in which the spans in the span of the bead have these ends."""
        return self._rank_in(place + 1, place + 1, end, ends)


def _row_table(lengths, seen):
    """Return the table of the parts of the row."""
    check_seen(lengths, seen)
    return RestTable(lengths, seen, len(lengths))


def count_rests(lengths, seen=None):
    """Return the number of the rows at rest with these lengths that agree with seen."""
    return _row_table(lengths, seen).whole()


def rest_at(lengths, index, seen=None):
    """Return the row at this index among the rows at rest with these lengths that agree with seen."""
    table = _row_table(lengths, seen)
    check_index(index, table.whole())
    return Beads(table.strengths_at(index), lengths, ring=False)


def rest_rank(beads):
    """Return the index of the row at rest among all rows at rest with its lengths."""
    check_row(beads)
    check_rest(beads)
    ends = [place + len(span_of(beads, place)) for place in range(len(beads))]
    return _row_table(beads.lengths, None).rank_of(ends)
