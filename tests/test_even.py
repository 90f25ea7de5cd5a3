import unittest

from retinue.even import even_marks, golden_marks, is_golden, remainders
from retinue.markrounds import mark_rounds
from retinue.marks import Marks
from retinue.words import arc_word, sharp_start
from tests.support import all_marks

FIBONACCI = [0, 1, 1, 2, 3, 5, 8, 13, 21, 34, 55, 89]


def slow_arcs(word):
    """The places of the first beads of the arcs, arc by arc."""
    places, at = [], 0
    while at < len(word):
        places.append(at)
        at += 2 if word.startswith("10", at) else 1
    return places


def turned(marks, turn):
    return Marks(marks.size, [(place + turn) % marks.size for place in marks.places])


class Even(unittest.TestCase):
    def test_by_the_words_of_the_document(self):
        for size in range(1, 66):
            for many in range(1, size + 1):
                marks = even_marks(size, many)
                self.assertEqual(marks.size, size)
                self.assertEqual(list(marks), [p for p in range(size) if divmod(p * many, size)[1] < many])
                self.assertEqual(len(marks), many)
                # The gaps are as even as possible.
                self.assertLessEqual(max(marks.gaps) - min(marks.gaps), 1)
                self.assertEqual([len(row) for row in mark_rounds(marks)], remainders(size, many))

    def test_ordinary(self):
        self.assertEqual([even_marks(5, 2).places, even_marks(6, 3).places, even_marks(8, 5).places],
                         [(0, 3), (0, 2, 4), (0, 2, 4, 5, 7)])
        self.assertEqual([remainders(60, 36), remainders(8, 5), remainders(7, 3)], [[36, 24, 12], [5, 3, 2, 1], [3, 1]])

    def test_many_is_one_or_the_size(self):
        for size in (1, 2, 7, 60):
            self.assertEqual([even_marks(size, 1).places, even_marks(size, size).places], [(0,), tuple(range(size))])
            self.assertEqual([remainders(size, 1), remainders(size, size)], [[1], [size]])


class Golden(unittest.TestCase):
    def test_by_the_words_of_the_document(self):
        for number in range(1, 9):
            marks = golden_marks(number)
            word = arc_word(number + 1)
            self.assertEqual(marks.size, FIBONACCI[number + 3])
            self.assertEqual(marks.size, len(word))
            self.assertEqual(list(marks), slow_arcs(word))
            # They are the strong beads of the sharp start with this word.
            strengths = sharp_start(number + 1).strengths
            self.assertEqual(list(marks), [place for place, strength in enumerate(strengths) if strength == 2])

    def test_ordinary(self):
        self.assertEqual([golden_marks(1).gaps, golden_marks(2).gaps, golden_marks(3).places],
                         [(2, 1), (2, 1, 2), (0, 2, 3, 5, 7)])

    def test_all_turns_of_all_numbers(self):
        for number in range(1, 8):
            marks = golden_marks(number)
            for turn in range(marks.size):
                self.assertIs(is_golden(turned(marks, turn)), True)

    def test_exactly_the_golden_marks_change_in_their_round(self):
        for number, size in ((1, 3), (2, 5), (3, 8), (4, 13)):
            golden = {tuple(sorted((p + turn) % size for p in golden_marks(number))) for turn in range(size)}
            for marks in all_marks([size]):
                self.assertIs(is_golden(marks), marks.places in golden)
                self.assertIs(is_golden(marks), len(mark_rounds(marks)) > number)

    def test_nearly_golden(self):
        for number in range(2, 8):
            marks = golden_marks(number)
            for place in marks.places:
                self.assertIs(is_golden(Marks(marks.size, [p for p in marks.places if p != place])), False)
            for place in range(marks.size):
                if place not in marks.places:
                    self.assertIs(is_golden(Marks(marks.size, marks.places + (place,))), False)
            mirrored = Marks(marks.size, [marks.size - 1 - p for p in marks.places])
            self.assertIs(is_golden(mirrored), len(mark_rounds(mirrored)) > number)

    def test_other_sizes(self):
        for size in (1, 2, 4, 6, 7, 9, 10, 11):
            for marks in all_marks([size]):
                self.assertIs(is_golden(marks), False)
        self.assertIs(is_golden(Marks(60, golden_marks(7).places)), False)
        self.assertIs(is_golden(Marks(54, golden_marks(7).places[:-1])), False)
        # The numbers of golden marks end with 7.
        self.assertIs(is_golden(golden_marks(8)), False)
