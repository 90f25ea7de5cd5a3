import unittest
from itertools import product

from retinue.beads import Beads
from retinue.errors import BadSeen, NotAtRest, OutOfRange, WrongKind
from retinue.rests import count_rests, rest_at, rest_rank
from retinue.waking import at_rest, restless
from tests.support import agrees, mixed, raised, sights, slow_wake, standings

SHAPES = [(1,), (4,), (1, 1), (2, 1), (1, 3), (1, 1, 1), (2, 1, 1), (1, 2, 3), (3, 2, 1), (1, 2, 1, 3), (1, 1, 1, 1),
          (3, 1, 1, 1), (1, 1, 2, 1, 1), (2, 1, 2, 1, 3), (1, 1, 1, 1, 1, 1), (1, 2, 3, 1, 2, 3)]


def slow_rests(lengths):
    """All rows at rest with these lengths, in ascending order, by trying all strengths that a reach can have."""
    many = len(lengths)
    sums = [[sum(lengths[p:end]) for end in range(p + 1, many + 1)] for p in range(many)]
    found = []
    for strengths in product(*sums):
        if slow_wake(Beads(strengths, lengths, ring=False), range(many)) == strengths:
            found.append(strengths)
    return found


class Rests(unittest.TestCase):
    def test_by_the_words_of_the_document(self):
        for lengths in SHAPES:
            all_rows = slow_rests(lengths)
            for seen in sights(lengths, all_rows):
                rows = [row for row in all_rows if agrees(row, seen)]
                for form in (lengths, list(lengths)):
                    self.assertEqual(count_rests(form, seen), len(rows))
                    told = [rest_at(form, index, seen) for index in range(len(rows))]
                    self.assertEqual(told, [Beads(row, lengths, ring=False) for row in rows])
                for index in (-1, len(rows), len(rows) + 3):
                    self.assertEqual(raised(self, OutOfRange, rest_at, lengths, index, seen),
                                     {"index": index, "count": len(rows)})

    def test_ranks(self):
        for lengths in SHAPES:
            for index, row in enumerate(slow_rests(lengths)):
                self.assertEqual(rest_rank(Beads(row, lengths, ring=False)), index)

    def test_ordinary(self):
        self.assertEqual([count_rests([1, 1, 1]), rest_at([1, 1, 1], 1).strengths, count_rests([1, 1, 1], [None, 2, None])],
                         [4, (1, 2, 1), 2])
        self.assertEqual([rest_at((1, 1, 1), k).strengths for k in range(4)],
                         [(1, 1, 1), (1, 2, 1), (3, 1, 1), (3, 2, 1)])
        self.assertEqual(rest_at([1, 1, 1], 1, [None, 2, None]).strengths, (3, 2, 1))
        self.assertEqual(count_rests([5]), 1)
        self.assertEqual(rest_at([5], 0), Beads([5], [5], ring=False))
        self.assertEqual(rest_rank(Beads([5], [5], ring=False)), 0)
        self.assertEqual(count_rests([5], [4]), 0)
        self.assertEqual(count_rests([5], seen=(5,)), 1)
        self.assertEqual(rest_at([5], 0, seen=(None,)), Beads([5], [5], ring=False))

    def test_plain_rows(self):
        self.assertEqual([count_rests([1] * many) for many in range(1, 7)],
                         [len(slow_rests((1,) * many)) for many in range(1, 7)])

    def test_many_rows(self):
        self.assertEqual(count_rests([1] * 30), 1161300892672)
        for lengths in ([1] * 30, [1 + k for k in mixed(30, 5)], [10 ** 9] * 35, [2 ** k for k in range(40)]):
            count = count_rests(lengths)
            self.assertGreater(count, 10 ** 9)
            indexes = [0, 1, count // 3, count // 3 + 1, count // 2, count - 2, count - 1]
            rows = [rest_at(lengths, index) for index in indexes]
            self.assertEqual([row.strengths for row in rows], sorted(row.strengths for row in rows))
            for index, row in zip(indexes, rows):
                self.assertIs(at_rest(row), True)
                self.assertEqual(rest_rank(row), index)
            self.assertEqual(raised(self, OutOfRange, rest_at, lengths, count), {"index": count, "count": count})

    def test_many_rows_of_which_few_agree(self):
        for lengths in ([1] * 30, [1 + k for k in mixed(30, 5)], [2 ** k for k in range(35)]):
            row = rest_at(lengths, count_rests(lengths) // 3)
            self.assertEqual(count_rests(lengths, row.strengths), 1)
            self.assertEqual(rest_at(lengths, 0, list(row)), row)
            seen = [None if place in (3, 20) else strength for place, strength in enumerate(row)]
            told = [rest_at(lengths, index, seen).strengths for index in range(count_rests(lengths, seen))]
            self.assertIn(row.strengths, told)
            self.assertEqual(told, sorted(set(told)))
            self.assertTrue(all(agrees(strengths, seen) for strengths in told))


class Errors(unittest.TestCase):
    def test_seen_of_another_size(self):
        for lengths, seen in (([1, 1], []), ([1, 1], [None]), ((1, 1), (1, 1, 1)), ([1], [None, None]), ([3], ())):
            self.assertEqual(raised(self, BadSeen, count_rests, lengths, seen), {"size": len(seen)})
            for index in (0, -1, 99):
                self.assertEqual(raised(self, BadSeen, rest_at, lengths, index, seen), {"size": len(seen)})

    def test_out_of_range(self):
        for index in (-1, 4, 99):
            self.assertEqual(raised(self, OutOfRange, rest_at, [1, 1, 1], index), {"index": index, "count": 4})
        for index in (-1, 0, 1):
            told = raised(self, OutOfRange, rest_at, [1, 1, 1], index, [2, None, None])
            self.assertEqual(told, {"index": index, "count": 0})

    def test_of_the_rank(self):
        for ring in (Beads([1]), Beads([0]), Beads([2, 1, 2, 1])):
            self.assertEqual(raised(self, WrongKind, rest_rank, ring), {"ring": True})
        for row in standings(kinds=(False,)):
            if not at_rest(row):
                self.assertEqual(raised(self, NotAtRest, rest_rank, row), {"place": restless(row)[0]})
        self.assertEqual(raised(self, NotAtRest, rest_rank, Beads([3, 0, 0], ring=False)), {"place": 1})


class Outcomes(unittest.TestCase):
    def test_rest_is_an_outcome_in_which_brothers_never_fall(self):
        # The words of point 52, by the spans.
        for lengths in SHAPES[:11]:
            many = len(lengths)
            offsets = [sum(lengths[:k]) for k in range(many + 1)]
            found = []
            for ends in product(*[range(p + 1, many + 1) for p in range(many)]):
                if any(ends[q] > ends[p] for p in range(many) for q in range(p, ends[p])):
                    continue
                parents = [max([p for p in range(q) if ends[p] > q], default=-1) for q in range(many)]
                strengths = tuple(offsets[ends[p]] - offsets[p] for p in range(many))
                if all(strengths[p] <= strengths[q] for p in range(many) for q in range(p, many)
                       if parents[p] == parents[q]):
                    found.append(strengths)
            self.assertEqual([rest_at(lengths, index).strengths for index in range(count_rests(lengths))], found)
