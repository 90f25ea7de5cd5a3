import unittest

from retinue.errors import BadMarks, CannotWipe
from retinue.marks import Marks, wipe, wipers_of
from tests.support import all_marks, raised, slow_gap, slow_wipes


class TheClass(unittest.TestCase):
    def test_attributes(self):
        for places in ([4, 0, 3], (3, 4, 0), [0, 3, 4]):
            marks = Marks(6, places)
            self.assertEqual([marks.size, marks.places, marks.gaps], [6, (0, 3, 4), (3, 1, 2)])
            self.assertIsInstance(marks.places, tuple)
            self.assertIsInstance(marks.gaps, tuple)
            self.assertEqual([len(marks), list(marks)], [3, [0, 3, 4]])

    def test_gaps(self):
        for marks in all_marks(range(1, 9)):
            self.assertEqual(marks.gaps, tuple(slow_gap(marks.size, marks.places, p) for p in marks.places))
            self.assertEqual(sum(marks.gaps), marks.size)
            self.assertEqual(len(marks), len(marks.places))
            self.assertEqual(list(marks), list(marks.places))

    def test_one_mark_and_all_places(self):
        self.assertEqual([Marks(7, [5]).places, Marks(7, [5]).gaps], [(5,), (7,)])
        self.assertEqual([Marks(1, [0]).places, Marks(1, (0,)).gaps], [(0,), (1,)])
        marks = Marks(60, list(range(60))[::-1])
        self.assertEqual([marks.places, marks.gaps], [tuple(range(60)), (1,) * 60])

    def test_equal(self):
        self.assertEqual(Marks(5, [3, 0]), Marks(5, (0, 3)))
        for other in (Marks(6, [3, 0]), Marks(5, [3, 1]), Marks(5, [3]), (0, 3), 5, None):
            self.assertIs(Marks(5, [3, 0]) == other, False)
        self.assertIs(Marks(5, [3, 0]) == Marks(5, [3, 0]), True)

    def test_what_is_passed_may_be_changed_later(self):
        places = [3, 0]
        marks = Marks(5, places)
        self.assertEqual(places, [3, 0])
        places.append(1)
        self.assertEqual(marks, Marks(5, [0, 3]))

    def test_bad_marks(self):
        for size, places, place in ((5, [], -1), (1, (), -1), (5, [0, 5], 5), (5, [-1], -1), (5, [2, 0, 2], 2),
                                    (5, (4, 4, 9), 4), (5, [9, 4, 4], 9), (5, [1, 3, -2, 3], -2), (1, [1], 1),
                                    (3, [0, 1, 2, 0], 0), (60, [60], 60)):
            self.assertEqual(raised(self, BadMarks, Marks, size, places), {"place": place})


class Wiping(unittest.TestCase):
    def test_by_the_words_of_the_document(self):
        for marks in all_marks(range(1, 9)):
            wipes = slow_wipes(marks.size, marks.places)
            self.assertEqual(wipers_of(marks), sorted(wipes))
            for place in range(-1, marks.size + 2):
                if place in wipes:
                    self.assertEqual(wipe(marks, place), Marks(marks.size, wipes[place]))
                else:
                    self.assertEqual(raised(self, CannotWipe, wipe, marks, place), {"place": place})

    def test_ordinary(self):
        marks = Marks(7, [0, 3, 5])
        self.assertEqual(wipers_of(marks), [0])
        self.assertEqual(wipe(marks, 0), Marks(7, [0, 5]))
        self.assertEqual(marks, Marks(7, [0, 3, 5]))
        # The last mark wipes the first one.
        marks = Marks(7, [1, 2, 4])
        self.assertEqual(wipers_of(marks), [4])
        self.assertEqual(wipe(marks, 4), Marks(7, [2, 4]))

    def test_at_rest(self):
        # Marks are at rest exactly if all gaps are equal.
        for marks in all_marks(range(1, 9)):
            self.assertIs(wipers_of(marks) == [], len(set(marks.gaps)) == 1)
        for marks in (Marks(6, [4]), Marks(6, [0, 3]), Marks(6, [1, 3, 5]), Marks(6, range(6))):
            self.assertEqual(wipers_of(marks), [])
            for place in range(6):
                self.assertEqual(raised(self, CannotWipe, wipe, marks, place), {"place": place})

    def test_sixty_places_and_more(self):
        for size in (60, 80):
            marks = Marks(size, [place for place in range(size) if place % 7 in (0, 1, 3)])
            wipes = slow_wipes(size, marks.places)
            self.assertEqual(wipers_of(marks), sorted(wipes))
            for place, left in wipes.items():
                self.assertEqual(wipe(marks, place).places, left)
