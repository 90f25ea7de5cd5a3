import unittest

from retinue.beads import Beads
from retinue.errors import BadPlace
from retinue.tally import compare_tallies, tally_of, touched
from retinue.waking import changes_of, wake
from tests.support import handfuls, raised, slow_reach, standings


class Tallies(unittest.TestCase):
    def test_by_the_words_of_the_document(self):
        for beads in standings():
            expected = []
            for value in sorted(set(beads)):
                places = [p for p, s in enumerate(beads) if s == value]
                number_hungry = sum(slow_reach(beads, p) > value for p in places)
                tally = len(places) - 2 * number_hungry
                if tally != 0:
                    expected.append((value, tally))
            self.assertEqual(tally_of(beads), expected)

    def test_ordinary(self):
        self.assertEqual(tally_of(Beads([2, 2])), [(2, 2)])
        self.assertEqual(tally_of(Beads([0, 0, 4], ring=False)), [(0, -2), (4, 1)])
        self.assertEqual(tally_of(Beads([2, 1, 2, 9], ring=False)), [(1, 1), (2, 2), (9, 1)])
        # One of the two beads of strength 1 is hungry and the other one is not.
        self.assertEqual(tally_of(Beads([1, 0, 1], ring=False)), [(0, -1)])


class Comparing(unittest.TestCase):
    def test_the_least_value_at_which_they_differ(self):
        for one, other, expected in (
                ([], [], 0), ([(1, 2)], [(1, 2)], 0), ([(1, 2), (4, -1)], [(1, 2), (4, -1)], 0),
                ([], [(3, 1)], -1), ([], [(3, -1)], 1), ([(3, 1)], [], 1), ([(3, -1)], [], -1),
                ([(1, 1)], [(2, 5)], 1), ([(1, -1)], [(2, 5)], -1),
                ([(1, 1), (2, 9)], [(1, 2)], -1), ([(1, 2)], [(1, 1), (2, 9)], 1),
                ([(1, 1), (8, 5)], [(1, 2), (8, 1)], -1), ([(8, 5), (64, 1)], [(8, 6)], -1),
                ([(1, 1), (2, 3)], [(1, 1), (2, 4)], -1), ([(1, 1), (5, 1)], [(1, 1), (4, 1)], -1)):
            self.assertEqual(compare_tallies(one, other), expected)
            self.assertEqual(compare_tallies(other, one), -expected)


class Touching(unittest.TestCase):
    def test_by_the_words_of_the_document(self):
        for beads in standings(3, strengths=(0, 1, 2, 4)):
            for handful in handfuls(len(beads)):
                changes = changes_of(beads, handful)
                told = touched(beads, handful)
                if not changes:
                    self.assertIsNone(told)
                    continue
                value = min(min(before, after) for _, before, after in changes)
                number = sum(value in (before, after) for _, before, after in changes)
                self.assertEqual(told, (value, number))
                self.assertIsInstance(told, tuple)

    def test_the_tally_rises(self):
        for beads in standings(3):
            for handful in handfuls(len(beads)):
                told = touched(beads, handful)
                before, after = dict(tally_of(beads)), dict(tally_of(wake(beads, handful)))
                if told is None:
                    self.assertEqual(before, after)
                    continue
                value, number = told
                for lower in range(value):
                    self.assertEqual(before.get(lower, 0), after.get(lower, 0))
                self.assertEqual(after.get(value, 0) - before.get(value, 0), number)
                order = compare_tallies(list(before.items()), list(after.items()))
                self.assertEqual(order, -1)

    def test_nothing_changes(self):
        self.assertIsNone(touched(Beads([0, 0]), []))
        self.assertIsNone(touched(Beads([2, 1]), (0, 1, 0)))

    def test_ordinary(self):
        self.assertEqual(touched(Beads([5, 5, 0]), (2, 0, 0)), (0, 1))
        self.assertEqual(touched(Beads([5, 5, 5]), [2, 1, 0]), (1, 3))
        self.assertEqual(touched(Beads([0, 5, 5], ring=False), [1, 2]), (1, 2))

    def test_the_first_item_that_is_not_a_place(self):
        told = raised(self, BadPlace, touched, Beads([0, 0]), [1, 2, -1])
        self.assertEqual(told, {"place": 2})
