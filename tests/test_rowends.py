import unittest

from retinue.beads import Beads
from retinue.blocks import forced_heads, row_fault
from retinue.errors import BadCut, NoEnd, OutOfRange, WrongKind, WrongStart
from retinue.rowends import count_row_ends, most_leaders, row_end_at, row_end_rank
from tests.support import mixed, raised, small_starts, starts_of
from tests.test_blocks import NO_CUTS, cuts_of, slow_row_fault

RING = Beads([1, 1, 1])
HIGH = Beads([2, 1, 1], ring=False)


def rows():
    """Yield low and level rows of up to 6 beads."""
    yield from small_starts(False)
    for lengths in ((1, 2, 1, 2, 1), (1, 1, 1, 2, 1, 1), (2, 1, 2, 1, 3)):
        yield from starts_of(lengths, False)


def partitions(number, most):
    """The number of ways to write the number as a sum of numbers up to `most`, by a table."""
    ways = [1] + [0] * number
    for part in range(1, most + 1):
        for total in range(part, number + 1):
            ways[total] += ways[total - part]
    return ways[number]


class Ends(unittest.TestCase):
    def test_by_the_words_of_the_document(self):
        for row in rows():
            ends = sorted(cut for cut in cuts_of(len(row)) if slow_row_fault(row, cut) is None)
            self.assertEqual(count_row_ends(row), len(ends))
            self.assertEqual([row_end_at(row, k) for k in range(len(ends))], ends)
            self.assertEqual([row_end_rank(row, cut) for cut in ends], list(range(len(ends))))
            self.assertEqual([row_end_rank(row, list(cut)) for cut in ends], list(range(len(ends))))
            self.assertEqual(most_leaders(row), max(len(cut) for cut in ends))
            for index in (-1, len(ends), len(ends) + 5, -len(ends)):
                told = raised(self, OutOfRange, row_end_at, row, index)
                self.assertEqual(told, {"index": index, "count": len(ends)})

    def test_ordinary(self):
        row = Beads([2, 1, 2, 1, 3], [2, 1, 2, 1, 3], ring=False)
        self.assertEqual([count_row_ends(row), row_end_at(row, 0), row_end_at(row, 1), most_leaders(row)],
                         [2, (0,), (0, 2, 4), 3])
        row = Beads([0, 0, 0, 0], ring=False)
        self.assertEqual([row_end_at(row, k) for k in range(5)],
                         [(0,), (0, 1), (0, 1, 2), (0, 1, 2, 3), (0, 2)])
        self.assertIsInstance(row_end_at(row, 0), tuple)

    def test_one_bead(self):
        for strength in (0, 3, 5):
            row = Beads([strength], [3], ring=False)
            self.assertEqual([count_row_ends(row), row_end_at(row, 0), row_end_rank(row, (0,)), most_leaders(row)],
                             [1, (0,), 0, 1])
            self.assertEqual(raised(self, OutOfRange, row_end_at, row, 1), {"index": 1, "count": 1})

    def test_all_beads_heads(self):
        row = Beads([1] * 40, ring=False)
        self.assertEqual([count_row_ends(row), row_end_at(row, 0), most_leaders(row)], [1, tuple(range(40)), 40])

    def test_many_ends(self):
        for many in (40, 50, 120):
            row = Beads([0] * many, ring=False)
            level = Beads([many] * many, ring=False)
            for plain in (row, level):
                self.assertEqual(count_row_ends(plain), partitions(many, many))
                self.assertEqual(most_leaders(plain), many)
        for many in (30, 40, 45):
            row = Beads([0] * many, [2 ** k for k in range(many)], ring=False)
            count = 2 ** (many - 1)
            self.assertEqual(count_row_ends(row), count)
            self.assertEqual(row_end_at(row, 0), (0,))
            self.assertEqual(row_end_at(row, count - 1), (0, many - 1))
            self.assertEqual(row_end_at(row, many - 1), tuple(range(many)))
            self.assertEqual(row_end_rank(row, (0, many - 1)), count - 1)
            for index in (1, 12345, 2 ** 28 + 3, count // 3, count - 2):
                cut = row_end_at(row, index)
                self.assertEqual(row_end_rank(row, cut), index)
                self.assertIsNone(row_fault(row, cut))
            self.assertEqual(raised(self, OutOfRange, row_end_at, row, count), {"index": count, "count": count})

    def test_neighbours_ascend(self):
        for row in (Beads([k // 2 for k in mixed(40, 6)], [1 + k for k in mixed(40, 6)], ring=False),
                    Beads([5] * 40, [1 + k for k in mixed(40, 6, 11)], ring=False)):
            count = count_row_ends(row)
            self.assertGreater(count, 100)
            indexes = sorted({0, 1, count // 3, count // 3 + 1, count // 2, count - 2, count - 1})
            cuts = [row_end_at(row, index) for index in indexes]
            self.assertEqual(cuts, sorted(cuts))
            for index, cut in zip(indexes, cuts):
                self.assertEqual(row_end_rank(row, cut), index)
                self.assertIsNone(slow_row_fault(row, cut))
                self.assertTrue(set(forced_heads(row)) <= set(cut))
                self.assertLessEqual(len(cut), most_leaders(row))


class Errors(unittest.TestCase):
    def test_in_their_order(self):
        for ring in (RING, Beads([2, 1, 1]), Beads([0])):
            self.assertEqual(raised(self, WrongKind, count_row_ends, ring), {"ring": True})
            self.assertEqual(raised(self, WrongKind, most_leaders, ring), {"ring": True})
            for index in (0, -1, 9):
                self.assertEqual(raised(self, WrongKind, row_end_at, ring, index), {"ring": True})
        self.assertEqual(raised(self, WrongStart, count_row_ends, HIGH), {})
        self.assertEqual(raised(self, WrongStart, most_leaders, HIGH), {})
        for index in (0, -1, 9):
            self.assertEqual(raised(self, WrongStart, row_end_at, HIGH, index), {})

    def test_of_the_rank(self):
        for cut in ((0,),) + NO_CUTS:
            self.assertEqual(raised(self, WrongKind, row_end_rank, Beads([2, 1, 1]), cut), {"ring": True})
        for row in (HIGH, Beads([0, 0, 0], ring=False)):
            for cut in NO_CUTS:
                self.assertEqual(raised(self, BadCut, row_end_rank, row, list(cut)), {"cut": cut})
        self.assertEqual(raised(self, WrongStart, row_end_rank, HIGH, (0,)), {})
        for row in rows():
            for cut in cuts_of(len(row)):
                reason = slow_row_fault(row, cut)
                if reason is not None:
                    self.assertEqual(raised(self, NoEnd, row_end_rank, row, cut), {"reason": reason})
