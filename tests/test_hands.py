import unittest

from retinue.hands import good_wipes, last_hand
from retinue.marks import Marks, wipers_of
from tests.support import all_marks, slow_wipes


def slow_lengths(size, places, known):
    """The set of the numbers of wipings modulo 2 of all games."""
    if places not in known:
        wipes = slow_wipes(size, places)
        known[places] = {1 - number for left in wipes.values() for number in slow_lengths(size, left, known)} or {0}
    return known[places]


def slow_good(size, places, known):
    """The places by whose wiping the hand whose turn it is can make sure that it wipes last."""
    if places not in known:
        wipes = slow_wipes(size, places)
        known[places] = [place for place in sorted(wipes) if not slow_good(size, wipes[place], known)]
    return known[places]


class Hands(unittest.TestCase):
    def test_by_the_words_of_the_document(self):
        lengths, good = {}, {}
        told = {0: 0, 1: 0, None: 0}
        for marks in all_marks(range(1, 11)):
            size = marks.size
            both = slow_lengths(size, marks.places, lengths.setdefault(size, {}))
            last = last_hand(marks)
            self.assertEqual(last, None if len(both) == 2 else min(both))
            told[last] += 1
            if size % 2 == 1:
                self.assertIsNotNone(last)
            wipes = good_wipes(marks)
            self.assertEqual(wipes, slow_good(size, marks.places, good.setdefault(size, {})))
            if last == 0:
                self.assertEqual(wipes, [])
            if last == 1:
                self.assertEqual(wipes, wipers_of(marks))
        self.assertTrue(all(told.values()))

    def test_marks_at_rest(self):
        for marks in (Marks(6, [4]), Marks(6, [0, 3]), Marks(6, [1, 3, 5]), Marks(6, range(6)), Marks(1, [0])):
            self.assertEqual([last_hand(marks), good_wipes(marks)], [0, []])

    def test_ordinary(self):
        self.assertEqual([last_hand(Marks(5, [3, 0])), good_wipes(Marks(5, [3, 0]))], [1, [0]])
        # The ends (0,), (3,) and (0, 3): after three wipings or after two.
        marks = Marks(6, [0, 2, 3, 5])
        self.assertEqual([last_hand(marks), good_wipes(marks)], [None, []])
        # If the mark at 4 wipes, the marks are at rest; if the mark at 1 does, it can wipe again.
        marks = Marks(6, [0, 1, 4])
        self.assertEqual([last_hand(marks), good_wipes(marks), wipers_of(marks)], [None, [4], [1, 4]])

    def test_even_and_odd_sizes_with_ten_marks_and_more(self):
        for size, places in ((59, (0, 10, 19, 27, 34, 40, 45, 49, 52, 54)), (60, (0, 9, 10, 20, 24, 30, 33, 40, 50, 58)),
                             (60, (0, 9, 14, 15, 30, 39, 44, 45, 50, 51)),
                             (60, (0, 4, 5, 15, 19, 20, 30, 34, 35, 45, 49, 50))):
            marks = Marks(size, places)
            both = slow_lengths(size, places, {})
            self.assertEqual(last_hand(marks), None if len(both) == 2 else min(both))
            self.assertEqual(good_wipes(marks), slow_good(size, places, {}))

    def test_last_hand_of_many_marks(self):
        self.assertEqual(last_hand(Marks(59, range(58))), 1)
        self.assertEqual(last_hand(Marks(61, range(0, 59, 2))), 1)
        self.assertEqual(last_hand(Marks(61, range(0, 61, 3))), 0)
        self.assertIsNone(last_hand(Marks(60, [p for p in range(60) if p % 6 in (0, 4, 5)])))
