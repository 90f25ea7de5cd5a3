import unittest

from retinue.beads import Beads
from retinue.books import books_of
from retinue.rounds import final_heads
from tests.support import mixed, standings
from tests.test_rounds import slow_rounds, standings_of_rounds


def slow_book(rows, place):
    """The strengths after round 1, round 2 and so on, up to the last round in which the bead changes."""
    last = max([r for r in range(1, len(rows)) if rows[r][place] != rows[r - 1][place]], default=1)
    return [rows[min(r, len(rows) - 1)][place] for r in range(1, last + 1)]


class Books(unittest.TestCase):
    def test_by_the_words_of_the_document(self):
        for beads in standings_of_rounds():
            rows = slow_rounds(beads)
            books = books_of(beads)
            self.assertEqual(books, [slow_book(rows, place) for place in range(len(beads))])
            for book in books:
                self.assertIsInstance(book, list)
                self.assertGreaterEqual(len(book), 1)
                self.assertTrue(all(book[k] < book[k + 1] for k in range(len(book) - 1)))

    def test_ordinary(self):
        self.assertEqual(books_of(Beads([2, 1, 2])), [[2, 3], [1], [1]])
        self.assertEqual(books_of(Beads([2, 1, 2, 1])), [[2], [1], [2], [1]])
        self.assertEqual(books_of(Beads([0, 0, 0], [2, 1, 2], ring=False)), [[2, 3, 5], [1], [2]])
        for ring in (True, False):
            for strength in (0, 6, 9):
                self.assertEqual(books_of(Beads([strength], [6], ring=ring)), [[6]])

    def test_a_book_of_a_row_depends_on_the_bead_and_those_after_it(self):
        for row in standings(4, kinds=(False,)):
            books = books_of(row)
            for place in range(1, len(row)):
                rest = Beads(row.strengths[place:], row.lengths[place:], ring=False)
                self.assertEqual(books_of(rest), books[place:])

    def test_books_of_a_ring_from_a_final_head_on(self):
        for ring in standings_of_rounds():
            if ring.ring:
                books = books_of(ring)
                for place in final_heads(ring):
                    self.assertEqual(books_of(ring.as_row(place)), books[place:] + books[:place])

    def test_many_beads(self):
        for many in (120, 150):
            for ring in (True, False):
                beads = Beads(mixed(many, 9), [1 + k for k in mixed(many, 3)], ring=ring)
                rows = slow_rounds(beads)
                self.assertEqual(books_of(beads), [slow_book(rows, place) for place in range(many)])
