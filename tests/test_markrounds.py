import unittest
from itertools import product

from retinue.beads import Beads
from retinue.errors import OutOfRange
from retinue.even import golden_marks
from retinue.markrounds import before_at, count_before, mark_round, mark_rounds
from retinue.marks import Marks
from retinue.rounds import round_heads
from retinue.words import sharp_start
from tests.support import all_marks, mixed, raised, slow_gap

FIBONACCI = [0, 1, 1, 2, 3, 5, 8, 13, 21, 34, 55, 89]


def slow_round(marks):
    """The tuple of the places of the marks with the greatest gap."""
    gaps = {place: slow_gap(marks.size, marks.places, place) for place in marks.places}
    return tuple(place for place in marks.places if gaps[place] == max(gaps.values()))


def slow_befores(size):
    """A dict: for each tuple of places, the list of all marks on a ring of this size that a round turns into it."""
    found = {}
    for marks in all_marks([size]):
        found.setdefault(slow_round(marks), []).append(marks)
    return found


def order_from(first):
    """The key by which the marks before others are ordered, if the latter begin at this place."""
    def key(marks):
        at = marks.places.index(first)
        return max(marks.gaps), marks.gaps[at:] + marks.gaps[:at]
    return key


class Rounds(unittest.TestCase):
    def test_by_the_words_of_the_document(self):
        for marks in all_marks(range(1, 10)):
            self.assertEqual(mark_round(marks), Marks(marks.size, slow_round(marks)))
            rows = mark_rounds(marks)
            self.assertEqual(rows[0], marks.places)
            for before, after in zip(rows, rows[1:]):
                self.assertEqual(slow_round(Marks(marks.size, before)), after)
                self.assertNotEqual(before, after)
            self.assertEqual(slow_round(Marks(marks.size, rows[-1])), rows[-1])
            self.assertIsInstance(rows, list)
            self.assertTrue(all(isinstance(row, tuple) for row in rows))
            for number in range(1, len(rows)):
                self.assertGreaterEqual(marks.size, FIBONACCI[number + 3])

    def test_ordinary(self):
        self.assertEqual(mark_round(Marks(8, [0, 2, 3, 5, 7])), Marks(8, [0, 3, 5]))
        self.assertEqual(mark_rounds(Marks(8, [7, 0, 2, 3, 5])), [(0, 2, 3, 5, 7), (0, 3, 5), (0, 5), (0,)])
        self.assertEqual(mark_rounds(Marks(9, [0, 2, 3, 5, 7])), [(0, 2, 3, 5, 7), (0, 3, 5, 7), (0,)])

    def test_marks_at_rest(self):
        for marks in (Marks(6, [4]), Marks(6, [0, 3]), Marks(6, [1, 3, 5]), Marks(6, range(6)), Marks(1, [0])):
            self.assertEqual(mark_round(marks), marks)
            self.assertEqual(mark_rounds(marks), [marks.places])

    def test_heads_of_plain_rings(self):
        rings = [Beads(strengths) for many in range(1, 6) for strengths in product(range(many + 1), repeat=many)]
        rings += [Beads(mixed(many, most, step)) for many in (6, 17, 31, 47, 60) for most in (1, 2, 3, 60)
                  for step in (1, 7, 11)]
        rings += [sharp_start(number) for number in range(2, 9)]
        longest = 0
        for ring in rings:
            heads = round_heads(ring)
            kept = mark_rounds(Marks(len(ring), heads[0]))
            for number in range(1, max(len(heads), len(kept)) + 1):
                told = heads[number - 1] if number <= len(heads) else heads[-1]
                self.assertEqual(tuple(told), kept[number - 1] if number <= len(kept) else kept[-1])
            longest = max(longest, len(kept))
        self.assertEqual(longest, 8)


class Before(unittest.TestCase):
    def test_by_the_words_of_the_document(self):
        for size in range(1, 11):
            befores = slow_befores(size)
            for marks in all_marks([size]):
                found = sorted(befores.get(marks.places, []), key=order_from(marks.places[0]))
                self.assertEqual(count_before(marks), len(found))
                self.assertEqual([before_at(marks, index) for index in range(len(found))], found)
                # There are none exactly if some gap is 1 and not all gaps are 1.
                self.assertIs(found == [], 1 in marks.gaps and set(marks.gaps) != {1})
                for index in (-1, len(found), len(found) + 4):
                    self.assertEqual(raised(self, OutOfRange, before_at, marks, index),
                                     {"index": index, "count": len(found)})

    def test_ordinary(self):
        marks = Marks(5, [0])
        self.assertEqual([before_at(marks, index).gaps for index in range(5)],
                         [(2, 1, 1, 1), (3, 1, 1), (3, 2), (4, 1), (5,)])
        # The gaps are read from the place 3 on, where the marks that are passed begin.
        marks = Marks(10, [8, 3])
        told = [before_at(marks, index) for index in range(count_before(marks))]
        self.assertEqual([before.gaps[before.places.index(3):] + before.gaps[:before.places.index(3)] for before in told],
                         [(2, 1, 1, 1, 2, 1, 1, 1), (3, 1, 1, 3, 1, 1), (3, 1, 1, 3, 2), (3, 2, 3, 1, 1), (3, 2, 3, 2),
                          (4, 1, 4, 1), (5, 5)])
        self.assertEqual(told[2].places, (1, 3, 6, 7, 8))

    def test_one_mark_and_a_gap_of_one(self):
        self.assertEqual([count_before(Marks(1, [0])), before_at(Marks(1, [0]), 0)], [1, Marks(1, [0])])
        self.assertEqual(count_before(Marks(6, range(6))), 1)
        self.assertEqual(before_at(Marks(6, range(6)), 0), Marks(6, range(6)))
        self.assertEqual(count_before(Marks(6, [0, 1, 3])), 0)
        self.assertEqual(raised(self, OutOfRange, before_at, Marks(6, [0, 1, 3]), 0), {"index": 0, "count": 0})

    def test_sixty_places_and_more(self):
        for marks, least in ((Marks(60, [7]), 10 ** 16), (Marks(60, [59, 29]), 10 ** 14),
                             (Marks(60, [3, 19, 40]), 10 ** 10), (Marks(75, [74]), 10 ** 20),
                             (Marks(60, range(2, 60, 5)), 4000)):
            count = count_before(marks)
            self.assertGreater(count, least)
            indexes = [0, 1, count // 5, count // 2, count - 2, count - 1]
            told = [before_at(marks, index) for index in indexes]
            for before in told:
                self.assertEqual(mark_round(before), marks)
            keys = [order_from(marks.places[0])(before) for before in told]
            self.assertEqual(keys, sorted(keys))
            self.assertEqual(len(set(keys)), len(keys))
            self.assertEqual(raised(self, OutOfRange, before_at, marks, count), {"index": count, "count": count})

    def test_the_count_of_one_mark_by_another_way(self):
        # With one mark left, its gap is followed by any row of lesser gaps with the right sum.
        for size in (30, 60):
            ways = 0
            for greatest in range(1, size + 1):
                rows = [1] + [0] * (size - greatest)
                for total in range(1, size - greatest + 1):
                    rows[total] = sum(rows[total - gap] for gap in range(1, greatest) if gap <= total)
                ways += rows[size - greatest]
            self.assertEqual(count_before(Marks(size, [4])), ways)

    def test_golden_marks_one_after_another(self):
        for number in range(2, 8):
            marks = golden_marks(number)
            told = [before_at(marks, index) for index in range(min(count_before(marks), 50))]
            self.assertTrue(all(mark_round(before) == marks for before in told))
