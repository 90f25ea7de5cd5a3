import unittest

from retinue.arcs import settled_cut
from retinue.beads import Beads
from retinue.errors import BadPlace, CannotLead, Locked, NotTall, WrongKind
from retinue.leading import can_lead, lead_plan, locked_heads, tall_plan
from retinue.waking import run_order
from tests.support import mixed, raised, slow_ends, standings

ROW = Beads([3, 1, 1], ring=False)


def rings(most=4):
    return standings(most, strengths=(0, 1, 2, 3, 5), kinds=(True,))


class LockedRings(unittest.TestCase):
    def test_by_the_words_of_the_document(self):
        number = 0
        for ring in rings():
            cut = settled_cut(ring)
            expected = cut if cut is not None and len(cut) >= 2 else None
            self.assertEqual(locked_heads(ring), expected)
            number += expected is not None
        self.assertGreater(number, 10)

    def test_ordinary(self):
        self.assertEqual(locked_heads(Beads([2, 1, 2, 0])), (0, 2))
        self.assertEqual(locked_heads(Beads([1, 1])), (0, 1))
        self.assertIsNone(locked_heads(Beads([2, 2, 2, 0])))
        self.assertIsNone(locked_heads(Beads([4, 1, 2, 0])))
        self.assertIsNone(locked_heads(Beads([1])))
        self.assertEqual(raised(self, WrongKind, locked_heads, ROW), {"ring": False})
        self.assertEqual(raised(self, WrongKind, locked_heads, Beads([1, 1], ring=False)), {"ring": False})

    def test_other_leaders_cannot_be_had(self):
        for ring in rings(3):
            heads = locked_heads(ring)
            if heads is not None:
                self.assertEqual(slow_ends(ring, len(ring)), {heads})


class LeadPlans(unittest.TestCase):
    def check_plan(self, ring):
        order = lead_plan(ring)
        self.assertIsInstance(order, list)
        self.assertLessEqual(len(order), len(ring) + 1)
        for handful in order:
            self.assertIsInstance(handful, tuple)
            self.assertEqual(len(handful), 1)
        end = run_order(ring, order)[0]
        self.assertGreaterEqual(end.greatest(), end.total())
        if ring.greatest() >= ring.total():
            self.assertEqual(order, [])
        return end

    def test_small_rings(self):
        for ring in rings():
            heads = locked_heads(ring)
            if heads is None:
                self.check_plan(ring)
            else:
                told = raised(self, Locked, lead_plan, ring)
                self.assertEqual(told, {"heads": heads, "reason": ("locked", heads)})

    def test_afterwards_there_is_one_leader(self):
        for ring in rings(3):
            if locked_heads(ring) is None:
                ends = slow_ends(self.check_plan(ring), 1)
                self.assertEqual({len(leaders) for leaders in ends}, {1})

    def test_leaders_that_must_not_fall_in_any_order(self):
        # If bead 3 falls first, beads 0 and 2 have arcs of their strength 2, and the ring is locked.
        self.check_plan(Beads([2, 0, 2, 2]))
        self.check_plan(Beads([3, 0, 0, 3, 0, 0, 3, 0, 3]))
        self.check_plan(Beads([3, 0, 3, 3, 0, 0, 3, 0, 0]))
        self.check_plan(Beads([4, 4, 0, 0, 4, 0, 4, 0, 4, 0, 0, 4]))

    def test_ordinary(self):
        self.assertEqual(lead_plan(Beads([4, 0, 0, 0])), [])
        self.assertEqual(lead_plan(Beads([0, 9, 0])), [])
        self.assertEqual(lead_plan(Beads([0])), [(0,)])
        self.assertEqual(lead_plan(Beads([7], [7])), [])
        self.assertEqual(lead_plan(Beads([0, 3, 2], [9, 1, 1])), [(1,)])
        self.check_plan(Beads([0, 0, 0, 0]))

    def test_many_beads(self):
        for many in (120, 150):
            for ring in (Beads([many - 1] * many), Beads([0] * many), Beads([1] * (many - 1) + [0]),
                         Beads([many - 2] * (many - 1) + [0]), Beads(mixed(many, 9), [1 + k for k in mixed(many, 4)]),
                         Beads([40 + k // 9 for k in mixed(many, 9)], [1 + k for k in mixed(many, 4, 11)]),
                         Beads([10 ** 9] * (many // 2) + [0] * (many // 2), [10 ** 9 - 1] * many)):
                self.check_plan(ring)
            self.assertEqual(raised(self, Locked, lead_plan, Beads([1] * many))["heads"], tuple(range(many)))

    def test_errors_in_their_order(self):
        for row in (ROW, Beads([1, 1], ring=False), Beads([9], ring=False)):
            self.assertEqual(raised(self, WrongKind, lead_plan, row), {"ring": False})
        told = raised(self, Locked, lead_plan, Beads([2, 1, 2, 0]))
        self.assertEqual(told, {"heads": (0, 2), "reason": ("locked", (0, 2))})


class TallRings(unittest.TestCase):
    def check_plan(self, ring, place):
        order = tall_plan(ring, place)
        self.assertIsInstance(order, list)
        self.assertLessEqual(len(order), 2 * len(ring))
        for handful in order:
            self.assertIsInstance(handful, tuple)
            self.assertEqual(len(handful), 1)
        end = run_order(ring, order)[0]
        self.assertEqual([p for p, s in enumerate(end) if s >= end.total()], [place])

    def test_small_rings(self):
        for ring in standings(strengths=(0, 1, 3, 4, 5), kinds=(True,)):
            total = ring.total()
            if max(ring) < total:
                for call, *args in ((can_lead, ring), (tall_plan, ring, 0), (tall_plan, ring, 9)):
                    self.assertEqual(raised(self, NotTall, call, *args), {"greatest": max(ring), "total": total})
                continue
            places = can_lead(ring)
            self.assertEqual(places, [p for p, s in enumerate(ring) if s >= total])
            for place in range(len(ring)):
                if place in places:
                    self.check_plan(ring, place)
                else:
                    told = raised(self, CannotLead, tall_plan, ring, place)
                    self.assertEqual(told, {"place": place, "reason": ("weak", place)})

    def test_exactly_these_become_the_only_leader(self):
        for ring in standings(3, strengths=(0, 2, 3, 4, 6, 7), kinds=(True,)):
            if max(ring) >= ring.total():
                self.assertEqual(slow_ends(ring, 1), {(place,) for place in can_lead(ring)})

    def test_ordinary(self):
        ring = Beads([9, 3, 0, 4], [1, 1, 1, 1])
        self.assertEqual(can_lead(ring), [0, 3])
        self.check_plan(ring, 0)
        self.check_plan(ring, 3)
        self.assertEqual(can_lead(Beads([4, 4, 4, 4])), [0, 1, 2, 3])
        self.assertEqual(can_lead(Beads([1])), [0])
        self.assertEqual(tall_plan(Beads([1]), 0), [])
        self.assertEqual(tall_plan(Beads([0, 8, 7]), 1), [(2,)])
        self.check_plan(Beads([8, 9, 7, 7, 8]), 2)

    def test_many_beads(self):
        for many in (120, 150):
            ring = Beads([3 * many + k for k in mixed(many, 60)], [1 + k % 2 for k in range(many)])
            for place in (0, 1, many // 2, many - 1):
                self.check_plan(ring, place)
            ring = Beads(list(range(many, 2 * many)))
            self.assertEqual(can_lead(ring), list(range(many)))
            self.check_plan(ring, 0)

    def test_errors_in_their_order(self):
        for row in (ROW, Beads([0, 0], ring=False)):
            self.assertEqual(raised(self, WrongKind, can_lead, row), {"ring": False})
            for place in (0, 1, 7, -1):
                self.assertEqual(raised(self, WrongKind, tall_plan, row, place), {"ring": False})
        low = Beads([2, 1, 1])
        self.assertEqual(raised(self, NotTall, can_lead, low), {"greatest": 2, "total": 3})
        for place in (0, 1, 3, -1):
            self.assertEqual(raised(self, NotTall, tall_plan, low, place), {"greatest": 2, "total": 3})
        tall = Beads([3, 1, 1])
        for place in (3, -1):
            self.assertEqual(raised(self, BadPlace, tall_plan, tall, place), {"place": place})
        self.assertEqual(raised(self, CannotLead, tall_plan, tall, 2), {"place": 2, "reason": ("weak", 2)})
