import unittest

from retinue.errors import BadPlace, BadSeen
from retinue.sight import possible, sure_places
from tests.support import raised
from tests.test_rests import SHAPES, agrees, sights, slow_rests


class Sight(unittest.TestCase):
    def test_by_the_words_of_the_document(self):
        for lengths in SHAPES:
            all_rows = slow_rests(lengths)
            for seen in sights(lengths, all_rows):
                rows = [row for row in all_rows if agrees(row, seen)]
                sure = []
                for place in range(len(lengths)):
                    strengths = sorted({row[place] for row in rows})
                    self.assertEqual(possible(lengths, seen, place), strengths)
                    if len(strengths) == 1:
                        sure.append((place, strengths[0]))
                self.assertEqual(sure_places(lengths, seen), sure)
                self.assertEqual(sure_places(list(lengths), seen), sure)

    def test_ordinary(self):
        self.assertEqual(possible([1, 1, 1], [None, 2, None], 0), [1, 3])
        self.assertEqual(possible([1, 1, 1], [None, 2, None], 1), [2])
        self.assertEqual(possible([1, 1, 1], None, 0), [1, 3])
        self.assertEqual(possible([1, 1, 1], (None, None, None), 2), [1])
        self.assertEqual(sure_places([1, 1, 1], [None, 2, None]), [(1, 2), (2, 1)])
        self.assertEqual(sure_places([1, 1, 1], None), [(2, 1)])
        self.assertEqual(sure_places([1, 1, 1], [3, 2, None]), [(0, 3), (1, 2), (2, 1)])
        self.assertEqual((possible([4], None, 0), sure_places([4], None)), ([4], [(0, 4)]))
        self.assertTrue(all(isinstance(pair, tuple) for pair in sure_places([1, 1, 1], [None, 2, None])))

    def test_no_row_agrees(self):
        for seen in ([2, None, None], [None, None, 0], (None, 3, None), [None, 10 ** 12, None]):
            for place in range(3):
                self.assertEqual(possible([1, 1, 1], seen, place), [])
            self.assertEqual(sure_places([1, 1, 1], seen), [])

    def test_more_beads(self):
        for many in (12, 15, 18):
            self.assertEqual(possible([1] * many, None, many - 2), [1, 2])
            self.assertEqual(possible([1] * many, [many] + [None] * (many - 1), 1)[-1], many - 1)
            self.assertEqual(sure_places([1] * many, None), [(many - 1, 1)])
            seen = [None] + [1] * (many - 1)
            self.assertEqual(possible([1] * many, seen, 0), [1, many])
            self.assertEqual(sure_places([1] * many, seen), [(place, 1) for place in range(1, many)])

    def test_errors_in_their_order(self):
        for lengths, seen in (([1, 1], []), ([1, 1], [None]), ((1, 1), (1, 1, 1)), ([1], [None, None])):
            self.assertEqual(raised(self, BadSeen, sure_places, lengths, seen), {"size": len(seen)})
            for place in (0, -1, 9):
                self.assertEqual(raised(self, BadSeen, possible, lengths, seen, place), {"size": len(seen)})
        for seen in (None, [None, None], [9, 9]):
            for place in (-1, 2, 9):
                self.assertEqual(raised(self, BadPlace, possible, [1, 1], seen, place), {"place": place})
