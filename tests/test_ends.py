import unittest
from itertools import combinations

from retinue.arcs import cuttings, least_arc
from retinue.beads import Beads
from retinue.ends import cut_fault, ends_of
from retinue.errors import BadCut, WrongKind, WrongStart
from retinue.starts import is_level, is_low
from tests.support import mixed, raised, slow_ends, slow_held, small_starts, starts_of

ROW = Beads([1, 1, 1], ring=False)
HIGH = Beads([2, 1, 1])


def slow_fault(ring, cut, hand):
    """The fault of a cutting by the words of the document, bead by bead."""
    length = sum(ring.lengths) // len(cut)
    least = min(max(ring.strengths), -(-sum(ring.lengths) // hand))
    if len(set(ring.strengths)) == 1 and length < least:
        return ("short", length, least)
    for head in cut:
        before, place = ring.lengths[head], (head + 1) % len(ring)
        while place not in cut:
            if slow_held(ring, place, before):
                return ("blocked", head, place)
            before, place = before + ring.lengths[place], (place + 1) % len(ring)
    return None


class Faults(unittest.TestCase):
    def test_by_the_words_of_the_document(self):
        words = {"short": 0, "blocked": 0, None: 0}
        for ring in small_starts(True):
            for cut in cuttings(ring):
                for hand in range(1, len(ring) + 2):
                    expected = slow_fault(ring, cut, hand)
                    words[expected and expected[0]] += 1
                    self.assertEqual(cut_fault(ring, cut, hand=hand), expected)
                    self.assertEqual(cut_fault(ring, list(cut), hand=hand), expected)
                self.assertEqual(cut_fault(ring, cut), cut_fault(ring, cut, hand=1))
        self.assertGreater(min(words.values()), 50)

    def test_exactly_the_cuttings_that_a_search_finds(self):
        for ring in small_starts(True):
            hands = range(1, len(ring) + 1) if is_level(ring) else (1, len(ring))
            for hand in hands:
                found = slow_ends(ring, hand)
                expected = [cut for cut in cuttings(ring) if cut in found]
                self.assertEqual(ends_of(ring, hand=hand), expected, (ring.strengths, ring.lengths, hand))
                self.assertEqual(len(expected), len(found))

    def test_five_beads_by_a_search(self):
        for lengths in ((1, 1, 1, 1, 1), (1, 1, 2, 1, 1)):
            for ring in starts_of(lengths, True):
                if is_level(ring):
                    self.assertEqual(set(ends_of(ring)), slow_ends(ring, 1))

    def test_ordinary(self):
        level = Beads([3, 3, 3, 3, 3, 3])
        low = Beads([3, 2, 1], [3, 2, 1])
        self.assertEqual(cut_fault(level, (0, 2, 4)), ("short", 2, 3))
        self.assertEqual(cut_fault(level, (0, 2, 4), hand=2), ("short", 2, 3))
        for hand in (3, 4, 6, 7, 120):
            self.assertIsNone(cut_fault(level, (0, 2, 4), hand=hand))
        self.assertIsNone(cut_fault(level, (1, 4)))
        self.assertEqual(cut_fault(level, (0, 1, 2, 3, 4, 5), hand=5), ("short", 1, 2))
        self.assertIsNone(cut_fault(level, (0, 1, 2, 3, 4, 5), hand=6))
        self.assertEqual(cut_fault(low, (1,)), ("blocked", 1, 0))
        self.assertIsInstance(cut_fault(low, (1,)), tuple)
        self.assertIsNone(cut_fault(low, (0,)))

    def test_arcs_are_searched_in_the_order_of_their_heads(self):
        # Behind head 1 the bead 3 is blocked and behind head 4 the bead 5; the run of head 4 goes over the end.
        ring = Beads([2, 1, 0, 2, 1, 1], [2, 1, 1, 2, 1, 3])
        self.assertEqual(cut_fault(ring, (1, 5)), ("blocked", 1, 3))
        ring = Beads([1, 1, 0, 0, 1, 0], [1, 1, 1, 1, 1, 1])
        self.assertEqual(cut_fault(ring, (2, 5)), ("blocked", 5, 0))
        self.assertEqual(cut_fault(ring, (3,)), ("blocked", 3, 4))
        self.assertEqual(cut_fault(ring, (0, 3)), ("blocked", 0, 1))

    def test_a_level_ring_that_is_not_low(self):
        # Each bead of length 3 or more holds: it never becomes weaker than 3.
        ring = Beads([3, 3, 3, 3], [1, 2, 3, 6])
        self.assertEqual(cut_fault(ring, (0,)), ("blocked", 0, 2))
        self.assertEqual(cut_fault(ring, (2,)), ("blocked", 2, 3))
        self.assertIsNone(cut_fault(ring, (3,)))
        self.assertEqual(cut_fault(ring, (0, 3)), ("blocked", 0, 2))
        self.assertIsNone(cut_fault(Beads([3, 3, 3], [1, 3, 4]), (2,)))

    def test_a_low_ring_that_is_level(self):
        ring = Beads([1, 1, 1, 1])
        self.assertEqual(ends_of(ring), [(0, 1, 2, 3)])
        self.assertEqual(cut_fault(ring, (0, 2), hand=4), ("blocked", 0, 1))
        self.assertEqual(ends_of(Beads([0, 0, 0, 0])), cuttings(ring))

    def test_one_bead(self):
        for strength in (0, 1, 4, 5, 9):
            for hand in (1, 2, 7):
                self.assertIsNone(cut_fault(Beads([strength], [4]), (0,), hand=hand))
                self.assertEqual(ends_of(Beads([strength], [4]), hand=hand), [(0,)])

    def test_the_greatest_strength_equal_to_the_total(self):
        ring = Beads([4, 4, 4, 4])
        self.assertEqual(ends_of(ring), [(0,), (1,), (2,), (3,)])
        self.assertEqual(ends_of(ring, hand=2), [(0,), (1,), (2,), (3,), (0, 2), (1, 3)])
        self.assertEqual(cut_fault(ring, (0, 2)), ("short", 2, 4))

    def test_short_depends_on_the_hand(self):
        ring = Beads([5, 5, 5, 5])
        self.assertEqual(cut_fault(ring, (0, 1, 2, 3), hand=3), ("short", 1, 2))
        self.assertEqual(cut_fault(ring, (0, 1, 2, 3), hand=2), ("short", 1, 2))
        self.assertEqual(cut_fault(ring, (0, 1, 2, 3), hand=1), ("short", 1, 4))
        self.assertIsNone(cut_fault(ring, (0, 1, 2, 3), hand=4))
        ring = Beads([4, 4, 4], [4, 2, 6])
        self.assertIsNone(cut_fault(ring, (0,)))
        self.assertEqual(cut_fault(ring, (1,)), ("blocked", 1, 2))
        self.assertIsNone(cut_fault(ring, (0, 2)))


class Errors(unittest.TestCase):
    def test_in_their_order(self):
        for cut in ((0,), (), (5,), (1, 0)):
            self.assertEqual(raised(self, WrongKind, cut_fault, ROW, cut), {"ring": False})
            self.assertEqual(raised(self, WrongKind, cut_fault, Beads([2, 1, 1], ring=False), cut), {"ring": False})
        for ring in (HIGH, Beads([1, 1, 1]), Beads([3, 3, 3])):
            for cut in ((), (0, 1), (2, 0), (3,), (-1,), (0, 0), (0, 1, 2, 3)):
                self.assertEqual(raised(self, BadCut, cut_fault, ring, cut), {"cut": cut})
                self.assertEqual(raised(self, BadCut, cut_fault, ring, list(cut), hand=2), {"cut": cut})
        for cut in cuttings(HIGH):
            self.assertEqual(raised(self, WrongStart, cut_fault, HIGH, cut), {})
        with self.assertRaises(TypeError):
            cut_fault(HIGH, (0,), 2)

    def test_of_the_list(self):
        self.assertEqual(raised(self, WrongKind, ends_of, ROW), {"ring": False})
        self.assertEqual(raised(self, WrongKind, ends_of, Beads([2, 1], ring=False), hand=3), {"ring": False})
        self.assertEqual(raised(self, WrongStart, ends_of, HIGH), {})
        self.assertEqual(raised(self, WrongStart, ends_of, HIGH, hand=3), {})
        with self.assertRaises(TypeError):
            ends_of(HIGH, 2)


class Ends(unittest.TestCase):
    def test_never_empty_and_in_the_order_of_the_cuttings(self):
        for ring in small_starts(True):
            for hand in (1, 2, 3):
                ends = ends_of(ring, hand=hand)
                self.assertGreater(len(ends), 0)
                self.assertEqual(ends, [cut for cut in cuttings(ring) if cut in ends])
                self.assertTrue(all(isinstance(cut, tuple) for cut in ends))
            self.assertEqual(ends_of(ring), ends_of(ring, hand=1))

    def test_the_hand_makes_no_difference_for_a_low_ring(self):
        for ring in small_starts(True):
            if is_low(ring):
                self.assertEqual(ends_of(ring), ends_of(ring, hand=len(ring)))

    def test_many_beads(self):
        for many in (120, 150):
            level = Beads([many] * many)
            self.assertEqual(ends_of(level), [(k,) for k in range(many)])
            self.assertEqual(ends_of(level, hand=many), cuttings(level))
            self.assertEqual(ends_of(Beads([0] * many)), cuttings(level))
            lengths = [1 + k for k in mixed(many, 5)]
            for ring in (Beads([k // 2 for k in lengths], lengths), Beads([4] * many, lengths)):
                expected = [cut for cut in cuttings(ring) if slow_fault(ring, cut, 3) is None]
                self.assertEqual(ends_of(ring, hand=3), expected)

    def test_least_arc_bounds_all_ends(self):
        for ring in small_starts(True):
            for hand in range(1, len(ring) + 1):
                for cut in ends_of(ring, hand=hand):
                    self.assertGreaterEqual(ring.total() // len(cut), least_arc(ring, hand=hand))


class Cuts(unittest.TestCase):
    def test_only_cuttings_are_taken(self):
        ring = Beads([1, 0, 1, 2], [1, 1, 2, 2])
        known = cuttings(ring)
        for many in range(1, 5):
            for cut in combinations(range(4), many):
                if cut in known:
                    cut_fault(ring, cut)
                else:
                    self.assertEqual(raised(self, BadCut, cut_fault, ring, cut), {"cut": cut})
