import unittest

from retinue.beads import Beads
from retinue.lineage import least_total
from retinue.rounds import rounds_of
from retinue.waking import at_rest
from retinue.words import arc_word, sharp_start, short_start

FIBONACCI = [0, 1, 1, 2, 3, 5, 8, 13, 21, 34, 55, 89]


def slow_strengths(word):
    """2 for the first bead of each arc, 1 for the others: the arcs are cut off one after the other."""
    strengths = []
    while word:
        arc = "10" if word.startswith("10") else "0"
        strengths += [2, 1][:len(arc)]
        word = word[len(arc):]
    return strengths


class Words(unittest.TestCase):
    def test_words(self):
        self.assertEqual([arc_word(number) for number in range(5)], ["0", "10", "100", "10010", "10010100"])
        for number in range(2, 20):
            self.assertEqual(arc_word(number), arc_word(number - 1) + arc_word(number - 2))
        self.assertEqual(len(arc_word(15)), 1597)


class SharpStarts(unittest.TestCase):
    def test_beads(self):
        for number in range(2, 11):
            word = arc_word(number)
            plain = Beads(slow_strengths(word))
            self.assertEqual(sharp_start(number), plain)
            self.assertEqual(sharp_start(number, ring=True, extra=0), plain)
            self.assertEqual(sharp_start(number, ring=False), Beads(slow_strengths(word), ring=False))
            self.assertEqual(plain.total(), least_total(number))
            for extra in (1, 2, 5, 30, 40):
                row = sharp_start(number, ring=False, extra=extra)
                self.assertEqual(row, Beads([1] * extra + slow_strengths(word), ring=False))
                ring = sharp_start(number, extra=extra)
                strengths = [len(word) + extra] + [1] * (extra - 1) + slow_strengths(word)
                self.assertEqual(ring, Beads(strengths))

    def test_exactly_the_rounds_up_to_the_number_change_something(self):
        for number in range(2, 10):
            for ring in (True, False):
                for extra in (0, 1, 2, 3, 7, 30):
                    start = sharp_start(number, ring=ring, extra=extra)
                    self.assertEqual(len(rounds_of(start)) - 1, number)

    def test_ordinary(self):
        self.assertEqual(sharp_start(3).strengths, (2, 1, 2, 2, 1))
        self.assertEqual(sharp_start(2).strengths, (2, 1, 2))
        self.assertEqual(sharp_start(2, extra=1).strengths, (4, 2, 1, 2))
        self.assertEqual(sharp_start(2, extra=3).strengths, (6, 1, 1, 2, 1, 2))
        self.assertEqual(sharp_start(2, extra=3, ring=False).strengths, (1, 1, 1, 2, 1, 2))
        self.assertIs(sharp_start(2, ring=False).ring, False)
        self.assertIs(sharp_start(2).ring, True)
        with self.assertRaises(TypeError):
            sharp_start(2, False)


class ShortStarts(unittest.TestCase):
    def test_beads(self):
        self.assertEqual(short_start(2), Beads([0, 0], [2, 1], ring=False))
        self.assertEqual(short_start(4), Beads([0, 0, 0, 0], [2, 1, 2, 3], ring=False))
        self.assertEqual(short_start(11).lengths, (2, *FIBONACCI[2:12]))

    def test_exactly_the_rounds_up_to_the_number_change_something(self):
        for number in range(2, 46):
            start = short_start(number)
            self.assertEqual((len(start), start.total()), (number, least_total(number)))
            rows = rounds_of(start)
            self.assertEqual(len(rows) - 1, number)
            self.assertTrue(at_rest(Beads(rows[-1], start.lengths, ring=False)))
