import unittest

from retinue.beads import Beads
from retinue.errors import WrongKind
from retinue.sweeps import sweep_row
from retinue.waking import at_rest, run_order
from tests.support import raised, slow_reach, standings


def slow_sweep(beads):
    """The order and the strengths at the end by the words of the document."""
    order, now = [], beads
    for place in range(len(beads) - 1, -1, -1):
        while slow_reach(now, place) != now.strengths[place]:
            order.append((place,))
            strengths = list(now)
            strengths[place] = slow_reach(now, place)
            now = Beads(strengths, now.lengths, ring=False)
    return order, now


class Sweeping(unittest.TestCase):
    def test_by_the_words_of_the_document(self):
        for row in standings(strengths=(0, 1, 2, 3, 9), kinds=(False,)):
            told = sweep_row(row)
            self.assertEqual(told, slow_sweep(row))
            self.assertIsInstance(told, tuple)
            order, end = told
            self.assertIsInstance(order, list)
            self.assertTrue(all(isinstance(handful, tuple) for handful in order))
            self.assertEqual(run_order(row, order)[0], end)
            self.assertIs(at_rest(end), True)

    def test_a_bead_that_falls_first_does_not_change_again(self):
        for row in standings(strengths=(0, 1, 2, 3, 9), kinds=(False,)):
            order, _ = sweep_row(row)
            now, seen, fallen = row, set(), set()
            for (place,) in order:
                self.assertNotIn(place, fallen)
                if place not in seen and slow_reach(now, place) < now.strengths[place]:
                    fallen.add(place)
                seen.add(place)
                now = run_order(now, [(place,)])[0]

    def test_ordinary(self):
        row = Beads([0, 0, 7, 1], [2, 1, 1, 1], ring=False)
        order, end = sweep_row(row)
        self.assertEqual(order, [(2,), (1,), (0,), (0,), (0,)])
        self.assertEqual(end, Beads([5, 1, 2, 1], [2, 1, 1, 1], ring=False))
        self.assertEqual(sweep_row(Beads([3, 1, 1], ring=False)), ([], Beads([3, 1, 1], ring=False)))
        self.assertEqual(sweep_row(Beads([0], ring=False)), ([(0,)], Beads([1], ring=False)))

    def test_a_ring(self):
        self.assertEqual(raised(self, WrongKind, sweep_row, Beads([0])), {"ring": True})

    def test_more_than_120_beads(self):
        order, end = sweep_row(Beads([10 ** 6] * 150, ring=False))
        self.assertEqual((len(order), end), (150, Beads(list(range(150, 0, -1)), ring=False)))
