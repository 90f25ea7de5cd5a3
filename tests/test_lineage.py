import unittest
from itertools import product

from retinue.beads import Beads
from retinue.errors import BadPlace, NoLineage
from retinue.lineage import least_total, lineage_of, most_rounds
from retinue.rounds import last_change, rounds_of
from tests.support import raised, slow_run, slow_train
from tests.test_rounds import slow_rounds, standings_of_rounds


def slow_stopper(beads, place):
    """The first bead of the run that is not in the train."""
    train = slow_train(beads, place)
    return [other for other in slow_run(beads, place) if other not in train][0]


def slow_lineage(beads, place, last):
    """The pairs by the words of the document."""
    rows = slow_rounds(beads)
    pairs = []
    for number in range(last, 1, -1):
        before = Beads(rows[number - 2], beads.lengths, ring=beads.ring)
        pairs.append((number, slow_stopper(before, place)))
    return pairs


class Lineages(unittest.TestCase):
    def test_by_the_words_of_the_document(self):
        known = 0
        for beads in standings_of_rounds():
            for place in range(len(beads)):
                last = last_change(beads, place)
                if last < 2:
                    self.assertEqual(raised(self, NoLineage, lineage_of, beads, place), {"place": place})
                    continue
                known += 1
                lineage = lineage_of(beads, place)
                self.assertEqual(lineage, slow_lineage(beads, place, last))
                self.assertIsInstance(lineage, list)
                self.assertTrue(all(isinstance(pair, tuple) for pair in lineage))
        self.assertGreater(known, 300)

    def test_what_the_strengths_come_to(self):
        for beads in standings_of_rounds():
            rows = rounds_of(beads)
            for place in range(len(beads)):
                if last_change(beads, place) >= 2:
                    for number, stopper in lineage_of(beads, place):
                        least = rows[number - 1][place] + rows[number - 1][stopper]
                        self.assertGreaterEqual(rows[number][place], least)
                        if number >= 3:
                            self.assertGreaterEqual(rows[number - 1][stopper], rows[number - 2][place])

    def test_ordinary(self):
        beads = Beads([2, 1, 2, 2, 1])
        self.assertEqual(lineage_of(beads, 0), [(3, 3), (2, 2)])
        self.assertEqual(lineage_of(Beads([2, 1, 2]), 0), [(2, 2)])

    def test_errors_in_their_order(self):
        beads = Beads([2, 1, 2])
        for place in (-1, 3, 9):
            self.assertEqual(raised(self, BadPlace, lineage_of, beads, place), {"place": place})
        for place in (1, 2):
            self.assertEqual(raised(self, NoLineage, lineage_of, beads, place), {"place": place})
        for ring in (True, False):
            for strength in (3, 4):
                told = raised(self, NoLineage, lineage_of, Beads([strength], [3], ring=ring), 0)
                self.assertEqual(told, {"place": 0})
            rest = Beads([2, 1, 2, 1], ring=ring)
            for place in range(4):
                self.assertEqual(raised(self, NoLineage, lineage_of, rest, place), {"place": place})
            self.assertEqual(raised(self, BadPlace, lineage_of, rest, 4), {"place": 4})


def compositions(total):
    """Yield all ways to write the total as a row of lengths."""
    if total == 0:
        yield ()
    for first in range(1, total + 1):
        for rest in compositions(total - first):
            yield (first,) + rest


class Totals(unittest.TestCase):
    def test_least_total(self):
        self.assertEqual([least_total(number) for number in range(1, 11)], [1, 3, 5, 8, 13, 21, 34, 55, 89, 144])
        self.assertEqual(least_total(40), 267914296)
        for number in range(3, 60):
            self.assertEqual(least_total(number + 1), least_total(number) + least_total(number - 1))

    def test_most_rounds(self):
        self.assertEqual([most_rounds(total) for total in range(1, 9)], [1, 1, 2, 2, 3, 3, 3, 4])
        self.assertEqual([most_rounds(10 ** 8), most_rounds(267914295), most_rounds(267914296)], [37, 39, 40])
        self.assertLessEqual(least_total(most_rounds(10 ** 8)), 10 ** 8)
        self.assertGreater(least_total(most_rounds(10 ** 8) + 1), 10 ** 8)
        for number in range(1, 50):
            total = least_total(number)
            self.assertEqual(most_rounds(total), number)
            if number > 1:
                self.assertEqual(most_rounds(total - 1), number - 1)

    def test_by_a_search_over_all_standings_of_a_small_total(self):
        # What rounds do after the first depends on the order of the strengths alone.
        for total in range(1, 7):
            most = 0
            for lengths in compositions(total):
                many = len(lengths)
                for strengths in product(range(min(many, 4)), repeat=many):
                    for ring in (True, False):
                        number = len(rounds_of(Beads(strengths, lengths, ring=ring))) - 1
                        self.assertLessEqual(number, many)
                        most = max(most, number)
            self.assertEqual(most, most_rounds(total))
