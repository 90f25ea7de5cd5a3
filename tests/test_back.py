import unittest

from retinue.back import last_wakers, strengths_before
from retinue.beads import Beads
from retinue.errors import BadPlace
from retinue.waking import wake
from tests.support import raised, standings


def slow_before(beads, place, most):
    """All strengths up to `most` that the bead can have had if it woke last, alone."""
    return [p for p in range(most + 1) if wake(beads.with_strength(place, p), [place]) == beads]


class Before(unittest.TestCase):
    def test_by_the_words_of_the_document(self):
        most = 6
        for beads in standings(strengths=(0, 1, 2, 3, 4)):
            wakers = []
            for place, strength in enumerate(beads):
                found = slow_before(beads, place, most)
                told = strengths_before(beads, place)
                if found:
                    high = None if found[-1] == most else found[-1]
                    self.assertEqual(told, (found[0], high))
                    self.assertIsInstance(told, tuple)
                    self.assertEqual(found, list(range(found[0], found[-1] + 1)))
                else:
                    self.assertIsNone(told)
                if [p for p in found if p != strength]:
                    wakers.append(place)
            self.assertEqual(last_wakers(beads), wakers)

    def test_edges(self):
        for ring in (True, False):
            self.assertEqual(strengths_before(Beads([7], [7], ring=ring), 0), (0, None))
            self.assertIsNone(strengths_before(Beads([6], [7], ring=ring), 0))
            self.assertEqual(last_wakers(Beads([7], [7], ring=ring)), [0])
            self.assertEqual(last_wakers(Beads([0], ring=ring)), [])
        self.assertEqual(strengths_before(Beads([3, 1], ring=False), 1), (0, None))
        self.assertEqual(strengths_before(Beads([2, 4, 4]), 0), None)
        self.assertEqual(strengths_before(Beads([2, 4, 5]), 0), (5, 5))
        # The span of the first bead is known, and the bead behind it is too weak to stop it.
        self.assertIsNone(strengths_before(Beads([2, 4, 3], ring=False), 0))
        self.assertEqual(strengths_before(Beads([1, 0], ring=False), 0), (0, 0))

    def test_only_the_present_strength_is_possible(self):
        row = Beads([2, 1, 2], ring=False)
        self.assertEqual(strengths_before(row, 0), (2, 2))
        self.assertEqual(last_wakers(row), [1])

    def test_no_such_place(self):
        for place in (-1, 2):
            told = raised(self, BadPlace, strengths_before, Beads([0, 0]), place)
            self.assertEqual(told, {"place": place})
