import unittest
from itertools import product

from retinue.beads import Beads
from retinue.errors import NotOutcome
from retinue.forest import origin_of, outcome_fault
from retinue.waking import wake_all
from tests.support import LENGTHS, raised, slow_span


def slow_fault(beads):
    """The fault of a standing by the words of the document."""
    spans = [slow_span(beads, place) for place in range(len(beads))]
    for place, span in enumerate(spans):
        if span is None:
            return (place, place)
    for place, span in enumerate(spans):
        for distance, other in enumerate(span):
            if distance + len(spans[other]) > len(span):
                return (place, other)
    return None


def all_standings(most):
    """Yield standings with all strengths that can matter for whether they are outcomes."""
    for many in range(1, most + 1):
        for lengths in LENGTHS[many]:
            for strengths in product(range(sum(lengths) + 2), repeat=many):
                for ring in (True, False):
                    yield Beads(strengths, lengths, ring=ring)


class Outcomes(unittest.TestCase):
    def test_outcomes_are_what_a_round_leaves(self):
        for many in range(1, 5):
            for lengths in LENGTHS[many]:
                for ring in (True, False):
                    # Only which beads are weaker matters, so `many` different strengths are enough.
                    left = {tuple(wake_all(Beads(row, lengths, ring=ring)))
                            for row in product(range(many), repeat=many)}
                    for row in product(range(min(sum(lengths), 5) + 1), repeat=many):
                        fault = outcome_fault(Beads(row, lengths, ring=ring))
                        self.assertEqual(fault is None, row in left)
                    for row in left:
                        self.assertIsNone(outcome_fault(Beads(row, lengths, ring=ring)))

    def test_faults(self):
        for beads in all_standings(3):
            self.assertEqual(outcome_fault(beads), slow_fault(beads))

    def test_ordinary_faults(self):
        self.assertEqual(outcome_fault(Beads([0, 2, 0])), (0, 0))
        self.assertEqual(outcome_fault(Beads([1, 0, 0])), (1, 1))
        self.assertEqual(outcome_fault(Beads([2, 1, 3])), None)
        self.assertEqual(outcome_fault(Beads([3, 1, 2])), (0, 2))
        self.assertEqual(outcome_fault(Beads([3, 1, 2, 1], ring=False)), (0, 2))
        self.assertEqual(outcome_fault(Beads([3, 2, 2, 1], ring=False)), (0, 2))
        self.assertEqual(outcome_fault(Beads([3, 2, 3, 1], ring=False)), (2, 2))
        self.assertEqual(outcome_fault(Beads([1, 2, 3, 1, 1], ring=False)), (1, 2))
        self.assertEqual(outcome_fault(Beads([2, 1], [2, 1])), None)
        self.assertEqual(outcome_fault(Beads([1, 1], [2, 1])), (0, 0))
        self.assertIsInstance(outcome_fault(Beads([0])), tuple)

    def test_one_bead_and_the_last_bead_of_a_row(self):
        for ring in (True, False):
            self.assertIsNone(outcome_fault(Beads([7], [7], ring=ring)))
            self.assertEqual(outcome_fault(Beads([8], [7], ring=ring)), (0, 0))
        self.assertEqual(outcome_fault(Beads([1, 2], ring=False)), (1, 1))
        self.assertIsNone(outcome_fault(Beads([1, 2])))

    def test_a_missing_span_is_told_first(self):
        self.assertEqual(outcome_fault(Beads([2, 2, 0], ring=False)), (2, 2))


class Origins(unittest.TestCase):
    def test_origins(self):
        for beads in all_standings(3):
            fault = slow_fault(beads)
            if fault is not None:
                told = raised(self, NotOutcome, origin_of, beads)
                self.assertEqual(told, {"first": fault[0], "second": fault[1]})
                continue
            places = range(len(beads))
            depths = [sum(q != p and p in slow_span(beads, q) for q in places) for p in places]
            origin = origin_of(beads)
            self.assertEqual(origin.strengths, tuple(max(depths) - depth for depth in depths))
            self.assertEqual((origin.lengths, origin.ring), (beads.lengths, beads.ring))
            self.assertEqual(wake_all(origin), beads)

    def test_more_than_120_beads(self):
        row = Beads(list(range(150, 0, -1)), ring=False)
        self.assertEqual(origin_of(row).strengths, tuple(range(149, -1, -1)))
