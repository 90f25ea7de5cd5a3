import unittest

from retinue.beads import Beads
from retinue.errors import BadBeads, BadPlace, WrongKind
from tests.support import raised, standings


class Making(unittest.TestCase):
    def test_attributes(self):
        beads = Beads([3, 0, 10 ** 12], [1, 10 ** 9, 2])
        self.assertEqual(beads.strengths, (3, 0, 10 ** 12))
        self.assertEqual(beads.lengths, (1, 10 ** 9, 2))
        self.assertIs(beads.ring, True)
        self.assertIsInstance(beads.strengths, tuple)
        self.assertIsInstance(beads.lengths, tuple)

    def test_lengths_are_1_and_the_kind_is_a_ring_unless_told(self):
        self.assertEqual(Beads((4, 5)).lengths, (1, 1))
        self.assertEqual(Beads([4], None, ring=True).lengths, (1,))
        self.assertIs(Beads((4, 5), ring=False).ring, False)
        with self.assertRaises(TypeError):
            Beads((4, 5), None, False)

    def test_lists_and_tuples_are_taken_alike_and_copied(self):
        strengths, lengths = [3, 1], [1, 2]
        beads = Beads(strengths, lengths)
        self.assertEqual(beads, Beads((3, 1), (1, 2)))
        strengths[0] = 9
        lengths.append(4)
        self.assertEqual((beads.strengths, beads.lengths), ((3, 1), (1, 2)))

    def test_no_bead_or_another_number_of_lengths(self):
        for args in (([],), ([], []), ((), ()), ([], [1]), ([1], []), ([1, 2], [1]), ([1], [1, 1])):
            for ring in (True, False):
                self.assertEqual(raised(self, BadBeads, Beads, *args, ring=ring), {"place": -1})

    def test_least_wrong_place(self):
        self.assertEqual(raised(self, BadBeads, Beads, [0, -1, -1]), {"place": 1})
        self.assertEqual(raised(self, BadBeads, Beads, [-1]), {"place": 0})
        self.assertEqual(raised(self, BadBeads, Beads, [0, 0, 0], [1, 1, 0]), {"place": 2})
        self.assertEqual(raised(self, BadBeads, Beads, [0, 0, -1], [1, 0, 1]), {"place": 1})
        self.assertEqual(raised(self, BadBeads, Beads, [0, -1, 0], [1, 1, -5]), {"place": 1})

    def test_the_number_is_checked_before_the_places(self):
        self.assertEqual(raised(self, BadBeads, Beads, [-1, 0], [0]), {"place": -1})
        self.assertEqual(raised(self, BadBeads, Beads, [-1], [0, 1]), {"place": -1})

    def test_more_than_120_beads(self):
        beads = Beads([10 ** 13] * 150, [10 ** 10] * 150)
        self.assertEqual((len(beads), beads.total()), (150, 150 * 10 ** 10))


class Reading(unittest.TestCase):
    def test_total_greatest_len_and_iteration(self):
        beads = Beads([3, 7, 0], [2, 1, 4], ring=False)
        self.assertEqual((beads.total(), beads.greatest(), len(beads)), (7, 7, 3))
        self.assertEqual(list(beads), [3, 7, 0])
        self.assertEqual(list(beads), [3, 7, 0])
        self.assertEqual((Beads([0]).total(), Beads([0]).greatest(), len(Beads([0]))), (1, 0, 1))

    def test_equality(self):
        beads = Beads([1, 2], [1, 2])
        self.assertTrue(beads == Beads((1, 2), (1, 2)))
        self.assertFalse(beads != Beads((1, 2), (1, 2)))
        for other in (Beads([1, 2]), Beads([2, 2], [1, 2]), Beads([1, 2], [1, 2], ring=False),
                      Beads([1, 2, 0], [1, 2, 1]), (1, 2), [1, 2], 3, None, "12"):
            self.assertIs(beads == other, False)
        self.assertTrue(Beads([1], ring=False) == Beads([1], [1], ring=False))


class WithStrength(unittest.TestCase):
    def test_only_this_strength_is_changed(self):
        for beads in standings(3):
            for place in range(len(beads)):
                strengths = list(beads)
                strengths[place] = 8
                expected = Beads(strengths, beads.lengths, ring=beads.ring)
                self.assertEqual(beads.with_strength(place, 8), expected)
        beads = Beads([1, 2])
        beads.with_strength(0, 5)
        self.assertEqual(beads.strengths, (1, 2))
        self.assertEqual(beads.with_strength(1, 0).strengths, (1, 0))

    def test_errors_in_their_order(self):
        beads = Beads([1, 2, 3])
        for place in (-1, 3, 9):
            self.assertEqual(raised(self, BadPlace, beads.with_strength, place, 1), {"place": place})
            self.assertEqual(raised(self, BadPlace, beads.with_strength, place, -1), {"place": place})
        self.assertEqual(raised(self, BadBeads, beads.with_strength, 1, -1), {"place": 1})


class AsRow(unittest.TestCase):
    def test_the_row_begins_at_the_place(self):
        ring = Beads([3, 1, 2], [1, 2, 4])
        self.assertEqual(ring.as_row(0), Beads([3, 1, 2], [1, 2, 4], ring=False))
        self.assertEqual(ring.as_row(1), Beads([1, 2, 3], [2, 4, 1], ring=False))
        self.assertEqual(ring.as_row(2), Beads([2, 3, 1], [4, 1, 2], ring=False))
        self.assertEqual(Beads([5]).as_row(0), Beads([5], ring=False))

    def test_errors_in_their_order(self):
        row = Beads([1, 2], ring=False)
        for place in (0, 2, -1):
            self.assertEqual(raised(self, WrongKind, row.as_row, place), {"ring": False})
        for place in (2, -1):
            self.assertEqual(raised(self, BadPlace, Beads([1, 2]).as_row, place), {"place": place})


class Joining(unittest.TestCase):
    def test_sum(self):
        for ring in (True, False):
            one, other = Beads([1, 2], [3, 4], ring=ring), Beads([5], [6], ring=ring)
            self.assertEqual(one + other, Beads([1, 2, 5], [3, 4, 6], ring=ring))
            self.assertEqual(other + one, Beads([5, 1, 2], [6, 3, 4], ring=ring))
            self.assertEqual((one.strengths, other.strengths), ((1, 2), (5,)))

    def test_sum_of_two_kinds(self):
        ring, row = Beads([1]), Beads([1], ring=False)
        self.assertEqual(raised(self, WrongKind, lambda: ring + row), {"ring": False})
        self.assertEqual(raised(self, WrongKind, lambda: row + ring), {"ring": True})

    def test_product(self):
        for ring in (True, False):
            beads = Beads([1, 2], [3, 4], ring=ring)
            self.assertEqual(beads * 1, beads)
            self.assertEqual(beads * 3, Beads([1, 2] * 3, [3, 4] * 3, ring=ring))
            self.assertEqual(len(beads * 20), 40)
        self.assertEqual(len(Beads([1] * 10) * 15), 150)
