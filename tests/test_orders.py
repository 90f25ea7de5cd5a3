import unittest
from itertools import permutations, product

from retinue.beads import Beads
from retinue.errors import BadOrder, NoOrder, NotOutcome, OutOfRange
from retinue.forest import outcome_fault
from retinue.orders import count_orders, order_at, woken_once
from tests.support import LENGTHS, mixed, raised, slow_reach, slow_span, standings

SHAPES = [lengths for shapes in LENGTHS.values() for lengths in shapes] + [(1, 1, 1, 1, 1), (2, 1, 3, 1, 2)]


def slow_woken(lengths, order, ring):
    """The strengths after the beads have woken one after another, all as strong as the total before."""
    strengths = [sum(lengths)] * len(lengths)
    for place in order:
        strengths[place] = slow_reach(Beads(strengths, lengths, ring=ring), place)
    return tuple(strengths)


def orders_by_end(lengths, ring):
    """A dict: for each standing that arises, the ascending list of the orders that lead to it."""
    found = {}
    for order in permutations(range(len(lengths))):
        found.setdefault(slow_woken(lengths, order, ring), []).append(list(order))
    return found


def slow_heads(beads):
    """The places that are in no other bead's span."""
    spans = [slow_span(beads, place) for place in range(len(beads))]
    return [p for p in range(len(beads)) if not any(p in spans[q] for q in range(len(beads)) if q != p)]


def outcomes(lengths, ring):
    """Yield all outcomes with these lengths."""
    many = len(lengths)
    for strengths in product(range(1, sum(lengths) + 1), repeat=many):
        beads = Beads(strengths, lengths, ring=ring)
        if outcome_fault(beads) is None:
            yield beads


class WokenOnce(unittest.TestCase):
    def test_by_the_words_of_the_document(self):
        for lengths in SHAPES:
            for ring in (False, True):
                for order in permutations(range(len(lengths))):
                    told = woken_once(list(lengths), list(order), ring=ring)
                    self.assertEqual(told, Beads(slow_woken(lengths, order, ring), lengths, ring=ring))
                    self.assertEqual(woken_once(lengths, order, ring=ring), told)

    def test_ordinary(self):
        self.assertEqual(woken_once([1, 1, 1], [2, 0, 1]), Beads([1, 2, 1], ring=False))
        self.assertEqual(woken_once([1, 1, 1], [2, 0, 1], ring=True), Beads([1, 3, 1]))
        self.assertEqual(woken_once([4], [0]), Beads([4], [4], ring=False))
        self.assertEqual(woken_once((4,), (0,), ring=True), Beads([4], [4]))
        self.assertEqual(woken_once([1, 2, 3], (2, 1, 0)), Beads([6, 5, 3], [1, 2, 3], ring=False))

    def test_what_arises(self):
        # Of rows exactly the outcomes, of rings exactly those with one head, which wakes last.
        for lengths in SHAPES:
            if len(lengths) > 4:
                continue
            rows = {row.strengths for row in outcomes(lengths, False)}
            self.assertEqual(set(orders_by_end(lengths, False)), rows)
            rings = {ring.strengths: slow_heads(ring) for ring in outcomes(lengths, True)}
            arising = orders_by_end(lengths, True)
            self.assertEqual(set(arising), {ring for ring, heads in rings.items() if len(heads) == 1})
            for ring, orders in arising.items():
                self.assertTrue(all(order[-1:] == rings[ring] for order in orders))

    def test_sixty_beads(self):
        for many in (60, 70):
            order = sorted(range(many), key=lambda place: (place * 37 + 11) % many)
            for ring in (False, True):
                beads = woken_once([1] * many, order, ring=ring)
                self.assertIsNone(outcome_fault(beads))
                self.assertEqual(beads.strengths, slow_woken((1,) * many, order, ring))


class Counts(unittest.TestCase):
    def test_all_orders(self):
        for lengths in SHAPES:
            for ring in (False, True):
                for strengths, orders in orders_by_end(lengths, ring).items():
                    beads = Beads(strengths, lengths, ring=ring)
                    self.assertEqual(count_orders(beads), len(orders))
                    self.assertEqual([order_at(beads, index) for index in range(len(orders))], orders)
                    for index in (-1, len(orders), len(orders) + 5):
                        self.assertEqual(raised(self, OutOfRange, order_at, beads, index),
                                         {"index": index, "count": len(orders)})

    def test_ordinary(self):
        row = Beads([1, 2, 1], ring=False)
        self.assertEqual([count_orders(row), order_at(row, 0), order_at(row, 1)], [2, [0, 2, 1], [2, 0, 1]])
        # In the ring the bead at place 2 is the first one of the brothers.
        ring = Beads([1, 3, 1])
        self.assertEqual([count_orders(ring), order_at(ring, 0)], [1, [2, 0, 1]])
        ring = Beads([2, 1, 5, 1, 1])
        self.assertEqual(count_orders(ring), 3)
        self.assertEqual([order_at(ring, index) for index in range(3)],
                         [[1, 3, 4, 0, 2], [3, 1, 4, 0, 2], [3, 4, 1, 0, 2]])

    def test_one_bead(self):
        for ring in (False, True):
            self.assertEqual(count_orders(Beads([3], [3], ring=ring)), 1)
            self.assertEqual(order_at(Beads([3], [3], ring=ring), 0), [0])

    def test_many_orders(self):
        # The beads of a row of 2, 2, .., 2 stand in pairs: the second bead of each wakes before the first one.
        row = Beads([2, 1] * 30, ring=False)
        count = 1
        for pair in range(2, 31):
            # All beads of the earlier pairs wake before the first bead of this one; the second bead is free.
            count *= 2 * pair - 1
        self.assertEqual(count_orders(row), count)
        self.assertEqual(count_orders(Beads([1] * 60, ring=False)), 1)
        ring = woken_once([1 + k for k in mixed(65, 3)], sorted(range(65), key=lambda k: (k * 28) % 65), ring=True)
        self.assertGreater(count_orders(ring), 10 ** 20)

    def test_orders_of_twelve_beads_and_more(self):
        for many in (12, 16):
            for ring in (False, True):
                given = sorted(range(many), key=lambda place: (place * 7 + 3) % many)
                if many == 16:
                    given = sorted(range(many), key=lambda place: (place * 5 + 3) % many)
                lengths = [1 + k for k in mixed(many, 2)]
                beads = woken_once(lengths, given, ring=ring)
                count = count_orders(beads)
                self.assertGreater(count, 100)
                indexes = [0, 1, count // 3, count // 2, count - 2, count - 1]
                told = [order_at(beads, index) for index in indexes]
                self.assertEqual(told, sorted(told))
                for order in told:
                    self.assertEqual(woken_once(lengths, order, ring=ring), beads)

    def test_the_orders_of_a_larger_ring_one_after_another(self):
        beads = woken_once([1] * 8, [6, 1, 4, 0, 7, 2, 5, 3], ring=True)
        found = [list(order) for order in permutations(range(8)) if slow_woken((1,) * 8, order, True) == beads.strengths]
        self.assertEqual([order_at(beads, index) for index in range(count_orders(beads))], found)


class Errors(unittest.TestCase):
    def test_bad_orders(self):
        for ring in (False, True):
            for order, index in (([], 0), ([0], 1), ([0, 1], 2), ([0, 0, 1], 1), ([3, 0, 0], 0), ([0, -1, 1], 1),
                                 ((2, 1, 2), 2), ([0, 1, 2, 0], 3), ([0, 1, 2, 3], 3), ([1, 1], 1), ((5,), 0),
                                 ([2, 2, 7], 1), ([2, 7, 2], 1)):
                told = raised(self, BadOrder, woken_once, [1, 2, 1], order, ring=ring)
                self.assertEqual(told, {"index": index})

    def test_no_outcome_then_no_order_then_out_of_range(self):
        seen = set()
        for beads in standings():
            fault = outcome_fault(beads)
            calls = [(count_orders, beads)] + [(order_at, beads, index) for index in (-1, 0, 10 ** 6)]
            if fault is not None:
                for call in calls:
                    self.assertEqual(raised(self, NotOutcome, *call), {"first": fault[0], "second": fault[1]})
            elif beads.ring and len(slow_heads(beads)) > 1:
                for call in calls:
                    self.assertEqual(raised(self, NoOrder, *call), {})
            else:
                count = count_orders(beads)
                for call in (calls[1], calls[3]):
                    self.assertEqual(raised(self, OutOfRange, *call), {"index": call[2], "count": count})
            seen.add((fault is None, beads.ring, len(slow_heads(beads)) if fault is None else 0))
        # Among them were rings with one head and with more, and rows with one head and with more.
        for heads in (1, 2, 3):
            self.assertIn((True, True, heads), seen)
            self.assertIn((True, False, heads), seen)
