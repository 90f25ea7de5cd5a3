import unittest
from itertools import product

from retinue.beads import Beads
from retinue.errors import BadLog, BadPlace
from retinue.waking import (at_rest, changes_of, hungry, restless, run_order, unwind, wake,
                            wake_all)
from tests.support import handfuls, raised, slow_reach, slow_wake, standings


class Handfuls(unittest.TestCase):
    def test_by_the_words_of_the_document(self):
        for beads in standings(3):
            for handful in handfuls(len(beads)):
                after = slow_wake(beads, handful)
                changes = [(p, beads.strengths[p], after[p]) for p in handful
                           if beads.strengths[p] != after[p]]
                self.assertEqual(changes_of(beads, handful), changes)
                self.assertEqual(wake(beads, handful), Beads(after, beads.lengths, ring=beads.ring))

    def test_order_and_repeats_make_no_difference(self):
        ring = Beads([0, 5, 1, 2])
        expected = [(0, 0, 1), (1, 5, 4)]
        for handful in ([1, 0, 1, 3], (3, 1, 0), [0, 1, 3, 3, 3], (1, 0, 0, 3)):
            self.assertEqual(changes_of(ring, handful), expected)
            self.assertEqual(wake(ring, handful).strengths, (1, 4, 1, 2))

    def test_changes_and_handfuls_of_a_log_ascend(self):
        ring = Beads([0] * 70)
        changes = [(place, 0, 1) for place in (1, 8, 33, 64, 69)]
        for handful in ([64, 8, 1, 69, 33], (69, 64, 64, 33, 8, 1)):
            self.assertEqual(changes_of(ring, handful), changes)
            self.assertEqual(run_order(ring, [handful])[1], [((1, 8, 33, 64, 69), changes)])

    def test_all_read_the_same_standing(self):
        self.assertEqual(wake(Beads([2, 1, 2]), [0, 2]).strengths, (2, 1, 1))
        self.assertEqual(wake(Beads([1, 2]), [0, 1]).strengths, (1, 2))
        self.assertEqual(wake(Beads([0, 2, 1], ring=False), [2, 1, 0]).strengths, (1, 2, 1))

    def test_the_empty_handful(self):
        for handful in ([], ()):
            self.assertEqual(changes_of(Beads([5, 0]), handful), [])
            self.assertEqual(wake(Beads([5, 0]), handful), Beads([5, 0]))

    def test_the_first_item_that_is_not_a_place(self):
        for call in (changes_of, wake):
            for handful, place in (([0, 4, -1], 4), ((-1, 4), -1), ([1, 2, 0], 2), ([-3], -3)):
                self.assertEqual(raised(self, BadPlace, call, Beads([0, 0]), handful), {"place": place})

    def test_wake_all(self):
        for beads in standings():
            after = slow_wake(beads, range(len(beads)))
            self.assertEqual(wake_all(beads), Beads(after, beads.lengths, ring=beads.ring))


class Rest(unittest.TestCase):
    def test_by_the_words_of_the_document(self):
        for beads in standings():
            told = [slow_reach(beads, place) for place in range(len(beads))]
            self.assertEqual(restless(beads), [p for p, s in enumerate(beads) if told[p] != s])
            self.assertEqual(hungry(beads), [p for p, s in enumerate(beads) if told[p] > s])
            self.assertIs(at_rest(beads), told == list(beads))

    def test_ordinary(self):
        self.assertEqual(restless(Beads([0, 5, 2])), [0, 1])
        self.assertEqual(hungry(Beads([0, 5, 2])), [0])
        self.assertEqual(restless(Beads([0, 5, 1])), [0, 1, 2])
        self.assertIs(at_rest(Beads([3, 1, 1])), True)
        self.assertIs(at_rest(Beads([7], [7])), True)
        self.assertIs(at_rest(Beads([0])), False)


class Orders(unittest.TestCase):
    def test_one_handful_after_another(self):
        order = [[1, 0, 1], (), (2,), [0]]
        now, log = run_order(Beads([2, 1, 2]), order)
        self.assertEqual(log, [((0, 1), []), ((), []), ((2,), [(2, 2, 1)]), ((0,), [(0, 2, 3)])])
        self.assertEqual(now, Beads([3, 1, 1]))
        for entry in log:
            self.assertIsInstance(entry, tuple)
            self.assertIsInstance(entry[0], tuple)
            self.assertIsInstance(entry[1], list)
        self.assertEqual(order, [[1, 0, 1], (), (2,), [0]])

    def test_by_the_words_of_the_document(self):
        for beads in standings(3, strengths=(0, 1, 3)):
            chosen = list(handfuls(len(beads)))
            for order in product(chosen[::2], chosen[1:], chosen[:2]):
                expected, now = [], beads
                for handful in order:
                    expected.append((handful, changes_of(now, handful)))
                    now = Beads(slow_wake(now, handful), beads.lengths, ring=beads.ring)
                self.assertEqual(run_order(beads, order), (now, expected))
                self.assertEqual(unwind(now, expected), beads)

    def test_the_empty_order(self):
        for order in ([], ()):
            self.assertEqual(run_order(Beads([4]), order), (Beads([4]), []))
        self.assertIsInstance(run_order(Beads([4]), []), tuple)

    def test_the_first_item_that_is_not_a_place(self):
        for order, place in (([[0], [1, 3, -1], [-2]], 3), (((0, -1), (5,)), -1), ([[], [2]], 2)):
            told = raised(self, BadPlace, run_order, Beads([0, 0]), order)
            self.assertEqual(told, {"place": place})

    def test_many_handfuls_and_beads(self):
        ring = Beads([0] * 150)
        now, log = run_order(ring, [tuple(range(150))] * 450)
        self.assertEqual((now, len(log)), (Beads([1] * 150), 450))
        self.assertEqual(unwind(now, log), ring)


class Unwinding(unittest.TestCase):
    def test_the_empty_log(self):
        self.assertEqual(unwind(Beads([4, 2], ring=False), []), Beads([4, 2], ring=False))

    def test_the_handfuls_are_not_read_and_tuples_do(self):
        log = [(("no", "place"), ((1, 7, 2),)), (None, [(0, 9, 5), (1, 2, 3)])]
        self.assertEqual(unwind(Beads([5, 3], [2, 4]), log), Beads([9, 7], [2, 4]))
        row = unwind(Beads([5, 3], ring=False), log)
        self.assertEqual(row, Beads([9, 7], ring=False))

    def test_the_first_wrong_entry_from_the_end(self):
        beads = Beads([5, 3])
        for log, index in (
                ([((0,), [(0, 1, 4)])], 0),
                ([((0,), [(0, 1, 4)]), ((), []), ((2,), [(2, 0, 0)])], 2),
                ([((0,), [(0, 1, 4)]), ((0,), [(0, 1, 5)])], 0),
                ([((0,), [(-1, 1, 3)]), ((), []), ((), [])], 0),
                ([((0,), [(2, 1, 3)]), ((), [])], 0),
                ([((0,), [(0, 1, 5)]), ((0,), [(0, 1, 5)])], 0),
                ([((0, 1), [(1, 0, 3), (0, 1, 6)]), ((), [])], 0)):
            self.assertEqual(raised(self, BadLog, unwind, beads, log), {"index": index})

    def test_entries_are_met_after_the_later_ones_were_taken_back(self):
        log = [((0,), [(0, 8, 1)]), ((0,), [(0, 1, 5)])]
        self.assertEqual(unwind(Beads([5, 3]), log), Beads([8, 3]))
        told = raised(self, BadLog, unwind, Beads([5, 3]), log + [((1,), [(1, 0, 2)])])
        self.assertEqual(told, {"index": 2})
