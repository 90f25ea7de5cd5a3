import unittest

from retinue.beads import Beads
from retinue.starts import is_level, is_low
from tests.support import standings


class Starts(unittest.TestCase):
    def test_by_the_words_of_the_document(self):
        for beads in standings():
            low = not [p for p in range(len(beads)) if beads.strengths[p] > beads.lengths[p]]
            self.assertIs(is_low(beads), low)
            self.assertIs(is_level(beads), len(set(beads.strengths)) == 1)

    def test_ordinary(self):
        for ring in (True, False):
            self.assertIs(is_low(Beads([3, 2, 0], [3, 2, 1], ring=ring)), True)
            self.assertIs(is_low(Beads([3, 2, 2], [3, 2, 1], ring=ring)), False)
            self.assertIs(is_level(Beads([4, 4, 4], [3, 2, 1], ring=ring)), True)
            self.assertIs(is_level(Beads([4, 4, 3], [3, 2, 1], ring=ring)), False)
            self.assertIs(is_level(Beads([9], ring=ring)), True)
            self.assertIs(is_low(Beads([0], ring=ring)), True)
