import unittest

from retinue.beads import Beads
from retinue.errors import WrongStart
from retinue.starts import check_start, first_held, holds_of, is_level, is_low, lowering_order
from retinue.waking import run_order
from tests.support import raised, slow_held, small_starts, standings


class Starts(unittest.TestCase):
    def test_by_the_words_of_the_document(self):
        for beads in standings():
            low = not [p for p in range(len(beads)) if beads.strengths[p] > beads.lengths[p]]
            level = len(set(beads.strengths)) == 1
            self.assertIs(is_low(beads), low)
            self.assertIs(is_level(beads), level)
            if low or level:
                self.assertIsNone(check_start(beads))
            else:
                self.assertEqual(raised(self, WrongStart, check_start, beads), {})

    def test_ordinary(self):
        for ring in (True, False):
            self.assertIs(is_low(Beads([3, 2, 0], [3, 2, 1], ring=ring)), True)
            self.assertIs(is_low(Beads([3, 2, 2], [3, 2, 1], ring=ring)), False)
            self.assertIs(is_level(Beads([4, 4, 4], [3, 2, 1], ring=ring)), True)
            self.assertIs(is_level(Beads([4, 4, 3], [3, 2, 1], ring=ring)), False)
            self.assertIs(is_level(Beads([9], ring=ring)), True)
            self.assertIs(is_low(Beads([0], ring=ring)), True)


class HeldBack(unittest.TestCase):
    def test_by_the_words_of_the_document(self):
        for ring in (True, False):
            for beads in small_starts(ring):
                holds = holds_of(beads)
                for place in range(len(beads)):
                    for before in range(1, beads.total() + 2):
                        self.assertIs(before <= holds[place], slow_held(beads, place, before))

    def test_ordinary(self):
        self.assertEqual(holds_of(Beads([2, 0, 1], [2, 1, 3])), [2, 0, 1])
        self.assertEqual(holds_of(Beads([2, 2, 2], [2, 1, 3])), [2, 0, 2])
        # Low and level at once: the rule for low standings decides.
        self.assertEqual(holds_of(Beads([1, 1, 1], [2, 1, 3])), [1, 1, 1])

    def test_the_first_bead_that_is_held_back(self):
        self.assertIsNone(first_held([1, 1], [9, 0], [0, 1]))
        self.assertEqual(first_held([1, 1], [9, 1], [0, 1]), 1)
        self.assertEqual(first_held([2, 1, 1, 5], [9, 1, 3, 9], [0, 1, 2, 3]), 2)
        self.assertEqual(first_held([2, 1, 1, 5], [2, 1, 3, 9], [3, 0, 1, 2]), None)
        self.assertEqual(first_held([2, 1, 1, 5], [5, 1, 3, 9], (3, 0, 1, 2)), 0)


class Lowering(unittest.TestCase):
    def test_each_inner_bead_gets_its_own_length(self):
        for ring in (True, False):
            for beads in small_starts(ring):
                order = lowering_order(beads, [list(range(len(beads)))])
                places = [place for (place,) in order]
                wanted = [p for p in range(1, len(beads)) if beads.strengths[p] > beads.lengths[p]]
                self.assertEqual(places, wanted)
                expected = [beads.lengths[p] if p in places else s for p, s in enumerate(beads)]
                self.assertEqual(list(run_order(beads, order)[0]), expected)
