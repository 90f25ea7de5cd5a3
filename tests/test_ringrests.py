import unittest
from itertools import product

from retinue.arcs import arc_length, cuttings
from retinue.beads import Beads
from retinue.errors import BadSeen, NotAtRest, OutOfRange, WrongKind
from retinue.rests import count_rests
from retinue.ringrests import count_ring_rests, ring_rest_at, ring_rest_rank
from retinue.waking import at_rest, restless
from tests.support import agrees, mixed, raised, sights, slow_leaders, slow_wake, standings

SHAPES = [(1,), (4,), (1, 1), (2, 1), (1, 3), (1, 1, 1), (2, 1, 1), (1, 2, 3), (3, 2, 1), (1, 2, 1, 3), (1, 1, 1, 1),
          (3, 1, 1, 1), (1, 2, 1, 2), (2, 2, 1, 1), (1, 1, 2, 1, 1), (2, 1, 2, 1, 3), (1, 2, 3, 1, 2), (1, 1, 1, 1, 1),
          (2, 1, 1, 2, 1, 1)]


def slow_ring_rests(lengths):
    """All rings at rest with these lengths, in the promised order, by trying all strengths that a reach can have."""
    many = len(lengths)
    twice = lengths * 2
    sums = [[sum(twice[p:end]) for end in range(p + 1, p + many + 1)] for p in range(many)]
    found = []
    for strengths in product(*sums):
        ring = Beads(strengths, lengths)
        if slow_wake(ring, range(many)) == strengths:
            leaders = slow_leaders(ring)
            around = strengths[leaders[0]:] + strengths[:leaders[0]]
            found.append((len(leaders), leaders[0], around, strengths))
    return [row[-1] for row in sorted(found)]


RESTS = {lengths: slow_ring_rests(lengths) for lengths in SHAPES}


class RingRests(unittest.TestCase):
    def test_by_the_words_of_the_document(self):
        for lengths, all_rows in RESTS.items():
            for seen in sights(lengths, all_rows):
                rows = [row for row in all_rows if agrees(row, seen)]
                for form in (lengths, list(lengths)):
                    self.assertEqual(count_ring_rests(form, seen), len(rows))
                    told = [ring_rest_at(form, index, seen) for index in range(len(rows))]
                    self.assertEqual(told, [Beads(row, lengths) for row in rows])
                for index in (-1, len(rows), len(rows) + 3):
                    self.assertEqual(raised(self, OutOfRange, ring_rest_at, lengths, index, seen),
                                     {"index": index, "count": len(rows)})

    def test_ranks(self):
        for lengths, rows in RESTS.items():
            for index, row in enumerate(rows):
                self.assertEqual(ring_rest_rank(Beads(row, lengths)), index)

    def test_ordinary(self):
        told = [ring_rest_at([1, 1, 1], index).strengths for index in range(7)]
        self.assertEqual(told, [(3, 1, 1), (3, 2, 1), (1, 3, 1), (1, 3, 2), (1, 1, 3), (2, 1, 3), (1, 1, 1)])
        self.assertEqual(ring_rest_at((1, 2, 1, 2), 10).strengths, (3, 2, 3, 2))

    def test_what_is_seen(self):
        self.assertEqual(count_ring_rests([1, 1, 1], [None, 2, None]), 1)
        self.assertEqual(ring_rest_at([1, 1, 1], 0, [None, 2, None]), Beads([3, 2, 1]))
        self.assertEqual(ring_rest_at([1, 1, 1], 2, seen=(1, None, None)), Beads([1, 1, 3]))
        self.assertEqual(count_ring_rests([1, 1, 1], [None, None, 3]), 2)
        for seen in ([0, None, None], [None, 4, None], [3, 3, None]):
            self.assertEqual(count_ring_rests([1, 1, 1], seen), 0)
            self.assertEqual(raised(self, OutOfRange, ring_rest_at, [1, 1, 1], 0, seen), {"index": 0, "count": 0})

    def test_one_length(self):
        self.assertEqual(count_ring_rests([5]), 1)
        self.assertEqual(ring_rest_at([5], 0), Beads([5], [5]))
        self.assertEqual(ring_rest_rank(Beads([5], [5])), 0)
        self.assertEqual(count_ring_rests([5], [4]), 0)
        self.assertEqual(count_ring_rests((5,), seen=(5,)), 1)
        self.assertEqual(ring_rest_at([5], 0, seen=(None,)), Beads([5], [5]))

    def test_item_k_belongs_to_place_k(self):
        ring = ring_rest_at([2, 1, 1, 3, 1], 7)
        for place, strength in enumerate(ring):
            seen = [None] * 5
            seen[place] = strength
            told = [ring_rest_at([2, 1, 1, 3, 1], k, seen) for k in range(count_ring_rests([2, 1, 1, 3, 1], seen))]
            self.assertIn(ring, told)
            self.assertTrue(all(other.strengths[place] == strength for other in told))

    def test_arcs_are_rows_at_rest_behind_their_heads(self):
        for lengths in ([1] * 8, [2, 1, 1, 2, 1, 1, 2], [1, 2, 3, 4, 5, 6]):
            ring = Beads([0] * len(lengths), lengths)
            count = 0
            for cut in cuttings(ring):
                ways = 1
                for head, end in zip(cut, cut[1:] + (cut[0] + len(lengths),)):
                    inner = (lengths * 2)[head + 1:end]
                    self.assertEqual(sum(inner) + lengths[head], arc_length(ring, cut))
                    ways *= count_rests(inner) if inner else 1
                count += ways
            self.assertEqual(count_ring_rests(lengths), count)

    def test_many_rings(self):
        self.assertEqual(count_ring_rests([1] * 20), 289153804)
        for lengths in ([1] * 20, [1] * 24, [1 + k for k in mixed(20, 3)], [10 ** 9] * 22, [2 ** k for k in range(25)]):
            count = count_ring_rests(lengths)
            self.assertGreater(count, 10 ** 6)
            indexes = [0, 1, count // 7, count // 3, count // 2, count - 2, count - 1]
            for index in indexes:
                ring = ring_rest_at(lengths, index)
                self.assertIs(at_rest(ring), True)
                self.assertEqual(ring_rest_rank(ring), index)
            self.assertEqual(raised(self, OutOfRange, ring_rest_at, lengths, count), {"index": count, "count": count})
            ring = ring_rest_at(lengths, count // 3)
            self.assertEqual(count_ring_rests(lengths, ring.strengths), 1)
            self.assertEqual(ring_rest_at(lengths, 0, list(ring)), ring)

    def test_the_count_of_many_rings_by_the_rows(self):
        # All rings with 20 lengths 1: cuttings into arcs of 20, 10, 5, 4, 2 and 1 beads.
        rows = [1] + [count_rests([1] * many) for many in range(1, 20)]
        count = sum(arc * rows[arc - 1] ** (20 // arc) for arc in (1, 2, 4, 5, 10, 20))
        self.assertEqual(count_ring_rests([1] * 20), count)


class Errors(unittest.TestCase):
    def test_seen_of_another_size(self):
        for lengths, seen in (([1, 1], []), ([1, 1], [None]), ((1, 1), (1, 1, 1)), ([1], [None, None]), ([3], ())):
            self.assertEqual(raised(self, BadSeen, count_ring_rests, lengths, seen), {"size": len(seen)})
            for index in (0, -1, 99):
                self.assertEqual(raised(self, BadSeen, ring_rest_at, lengths, index, seen), {"size": len(seen)})

    def test_out_of_range(self):
        for index in (-1, 7, 99):
            self.assertEqual(raised(self, OutOfRange, ring_rest_at, [1, 1, 1], index), {"index": index, "count": 7})

    def test_of_the_rank(self):
        for row in (Beads([1], ring=False), Beads([0], ring=False), Beads([2, 1, 2, 0], ring=False)):
            self.assertEqual(raised(self, WrongKind, ring_rest_rank, row), {"ring": False})
        for ring in standings(kinds=(True,)):
            if not at_rest(ring):
                self.assertEqual(raised(self, NotAtRest, ring_rest_rank, ring), {"place": restless(ring)[0]})
        self.assertEqual(raised(self, NotAtRest, ring_rest_rank, Beads([3, 2, 0])), {"place": 2})
