"""The rings at rest with given lengths, counted and numbered."""

from retinue.arcs import cuttings, resting_cut
from retinue.beads import Beads
from retinue.checks import check_index, check_seen
from retinue.choices import choice_at, join_index, product_of, split_index
from retinue.forest import span_of
from retinue.rests import RestTable


class RingTable:
    """The numbers of ways in which a ring with given lengths can be at rest and agree with seen.

    The ring is laid out twice as a row, so that each arc is one stretch of it.
    The span of the head of an arc is the arc.
    """

    def __init__(self, lengths, seen):
        check_seen(lengths, seen)
        self.many = len(lengths)
        items = [None] * self.many if seen is None else list(seen)
        self.table = RestTable(list(lengths) * 2, items * 2, self.many)
        # The strengths make no difference to the cuttings.
        self.cuts = cuttings(Beads([0] * self.many, lengths))
        self.numbers = [product_of(self._arc_ways(cut)) for cut in self.cuts]

    def _stretches(self, cut):
        """Return for each head of the cutting the pair of the head and the end of its arc."""
        return list(zip(cut, list(cut[1:]) + [cut[0] + self.many]))

    def _arc_ways(self, cut):
        """Return for each arc of the cutting the number of ways of its inner beads."""
        return [self.table.span_ways(head, end) for head, end in self._stretches(cut)]

    def strengths_at(self, index):
        """Return the list of the strengths of the ring at this index."""
        choice, left = choice_at(self.numbers, index)
        cut = self.cuts[choice]
        around = []
        for (head, end), own in zip(self._stretches(cut), split_index(self._arc_ways(cut), left)):
            around.extend(self.table.span_strengths(head, end, own))
        return [around[(place - cut[0]) % self.many] for place in range(self.many)]

    def rank_of(self, cut, ends):
        """Return the index of the ring with these heads whose spans, laid out twice, have these ends."""
        own = [self.table.span_rank(head, end, ends) for head, end in self._stretches(cut)]
        return sum(self.numbers[:self.cuts.index(cut)]) + join_index(self._arc_ways(cut), own)


def count_ring_rests(lengths, seen=None):
    """Return the number of the rings at rest with these lengths that agree with seen."""
    return sum(RingTable(lengths, seen).numbers)


def ring_rest_at(lengths, index, seen=None):
    """Return the ring at this index among the rings at rest with these lengths that agree with seen."""
    table = RingTable(lengths, seen)
    check_index(index, sum(table.numbers))
    return Beads(table.strengths_at(index), lengths)


def ring_rest_rank(beads):
    """Return the index of the ring at rest among all rings at rest with its lengths."""
    cut = resting_cut(beads)
    many = len(beads)
    spans = [len(span_of(beads, place)) for place in range(many)]
    ends = [place + spans[place % many] for place in range(2 * many)]
    return RingTable(beads.lengths, None).rank_of(cut, ends)
