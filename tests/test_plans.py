import unittest
from heapq import heappop, heappush

from retinue.arcs import arc_length, cuttings, settled_cut
from retinue.beads import Beads
from retinue.ends import cut_fault
from retinue.errors import BadCut, NoEnd, NotSettled, WrongKind, WrongStart
from retinue.plans import finish, least_wakings, plan_cut
from retinue.starts import is_low
from retinue.trains import leaders_of
from retinue.waking import at_rest, run_order
from tests.support import handfuls, mixed, raised, slow_leaders, slow_reach, slow_wake, small_starts, standings

ROW = Beads([1, 1, 1], ring=False)
HIGH = Beads([2, 1, 1])


def slow_least(ring, cut):
    """The number of point 36, step by step."""
    length = sum(ring.lengths) // len(cut)
    number = 0
    for head in cut:
        strength = ring.strengths[head]
        while strength < length:
            number += 1
            total, place = ring.lengths[head], (head + 1) % len(ring)
            while place not in cut and ring.strengths[place] < strength:
                total, place = total + ring.lengths[place], (place + 1) % len(ring)
            strength = length if place in cut else total
    return number


def fewest_changes(ring, cut):
    """How often the heads change at least on the way to a ring at rest with these leaders, by a search."""
    best, waiting = {ring.strengths: 0}, [(0, ring.strengths)]
    while waiting:
        number, strengths = heappop(waiting)
        now = Beads(strengths, ring.lengths)
        if slow_wake(now, range(len(now))) == strengths and slow_leaders(now) == cut:
            return number
        for handful in handfuls(len(now)):
            after = slow_wake(now, handful)
            more = number + sum(after[head] != strengths[head] for head in cut)
            if more < best.get(after, more + 1):
                best[after] = more
                heappush(waiting, (more, after))
    return None


class Plans(unittest.TestCase):
    def check_plan(self, ring, cut, hand, order):
        self.assertIsInstance(order, list)
        self.assertLessEqual(len(order), 2 * len(ring))
        for handful in order:
            self.assertIsInstance(handful, tuple)
            self.assertEqual(list(handful), sorted(set(handful)))
            self.assertTrue(1 <= len(handful) <= (1 if is_low(ring) else hand))
        end = run_order(ring, order)[0]
        self.assertEqual(settled_cut(end), tuple(cut))
        return end

    def test_small_rings(self):
        plans = 0
        for ring in small_starts(True):
            for cut in cuttings(ring):
                for hand in range(1, len(ring) + 2):
                    reason = cut_fault(ring, cut, hand=hand)
                    if reason is None:
                        self.check_plan(ring, cut, hand, plan_cut(ring, cut, hand=hand))
                        self.check_plan(ring, cut, hand, plan_cut(ring, list(cut), hand=hand))
                        plans += 1
                    else:
                        told = raised(self, NoEnd, plan_cut, ring, cut, hand=hand)
                        self.assertEqual(told, {"reason": reason})
                if cut_fault(ring, cut) is None:
                    self.check_plan(ring, cut, 1, plan_cut(ring, cut))
        self.assertGreater(plans, 1000)

    def test_plans_for_low_rings_are_as_short_as_possible(self):
        for ring in small_starts(True):
            if is_low(ring):
                for cut in cuttings(ring):
                    if cut_fault(ring, cut) is None:
                        order = plan_cut(ring, cut, hand=3)
                        self.assertEqual(len(order), least_wakings(ring, cut))
                        self.assertEqual([len(handful) for handful in order], [1] * len(order))

    def test_ordinary(self):
        level = Beads([3, 3, 3, 3, 3, 3])
        end = self.check_plan(level, (0, 2, 4), 3, plan_cut(level, (0, 2, 4), hand=3))
        self.assertEqual(end.greatest(), 2)
        self.check_plan(level, (1, 4), 1, plan_cut(level, (1, 4)))
        self.check_plan(level, (0, 1, 2, 3, 4, 5), 9, plan_cut(level, (0, 1, 2, 3, 4, 5), hand=9))
        self.assertEqual(plan_cut(Beads([4], [4]), (0,)), [])
        self.assertEqual(plan_cut(Beads([3], [4]), (0,)), [(0,)])
        self.assertEqual(plan_cut(Beads([5], [4]), (0,)), [(0,)])
        self.assertEqual(plan_cut(Beads([1, 1]), (0, 1)), [])
        self.assertEqual(len(plan_cut(Beads([0, 0]), (0, 1))), 2)
        end = run_order(Beads([4] * 4), plan_cut(Beads([4] * 4), (2,)))[0]
        self.assertEqual((end.greatest(), leaders_of(end)), (4, [2]))

    def test_a_plan_and_its_finish_lead_to_rest(self):
        for ring in small_starts(True):
            for cut in cuttings(ring):
                if cut_fault(ring, cut, hand=2) is None:
                    settled = run_order(ring, plan_cut(ring, cut, hand=2))[0]
                    order, end = finish(settled)
                    self.assertEqual((at_rest(end), tuple(leaders_of(end))), (True, cut))
                    self.assertEqual(run_order(settled, order)[0], end)

    def test_many_beads(self):
        for many in (120, 150):
            lengths = [1 + k for k in mixed(many, 5)]
            starts = [Beads([many] * many), Beads([0] * many), Beads([10 ** 12] * many), Beads([4] * many, lengths),
                      Beads([k // 2 for k in lengths], lengths), Beads([1] * many, [10 ** 9] * many)]
            plans = 0
            for ring in starts:
                for cut in cuttings(ring)[::7]:
                    for hand in (1, many // 3, many):
                        if cut_fault(ring, cut, hand=hand) is None:
                            self.check_plan(ring, cut, hand, plan_cut(ring, cut, hand=hand))
                            plans += 1
            self.assertGreater(plans, 100)

    def test_errors_in_their_order(self):
        for cut in ((0,), (), (9,), (1, 0)):
            self.assertEqual(raised(self, WrongKind, plan_cut, ROW, cut), {"ring": False})
            self.assertEqual(raised(self, WrongKind, plan_cut, Beads([2, 0], ring=False), cut), {"ring": False})
        for ring in (HIGH, Beads([1, 1, 1]), Beads([3, 3, 3])):
            for cut in ((), (0, 1), (3,), (2, 0)):
                self.assertEqual(raised(self, BadCut, plan_cut, ring, cut), {"cut": cut})
                self.assertEqual(raised(self, BadCut, plan_cut, ring, list(cut), hand=3), {"cut": cut})
        self.assertEqual(raised(self, WrongStart, plan_cut, HIGH, (0,)), {})
        told = raised(self, NoEnd, plan_cut, Beads([3] * 6), (0, 2, 4), hand=2)
        self.assertEqual(told, {"reason": ("short", 2, 3)})
        self.assertEqual(raised(self, NoEnd, plan_cut, Beads([4] * 4), (0, 2)), {"reason": ("short", 2, 4)})
        told = raised(self, NoEnd, plan_cut, Beads([3, 2, 1], [3, 2, 1]), (1,))
        self.assertEqual(told, {"reason": ("blocked", 1, 0)})
        with self.assertRaises(TypeError):
            plan_cut(HIGH, (0,), 1)


class LeastWakings(unittest.TestCase):
    def test_by_the_words_of_the_document(self):
        for ring in small_starts(True):
            for cut in cuttings(ring):
                if not is_low(ring):
                    self.assertEqual(raised(self, WrongStart, least_wakings, ring, cut), {})
                elif cut_fault(ring, cut) is None:
                    self.assertEqual(least_wakings(ring, cut), slow_least(ring, cut))
                    self.assertEqual(least_wakings(ring, list(cut)), slow_least(ring, cut))
                else:
                    told = raised(self, NoEnd, least_wakings, ring, cut)
                    self.assertEqual(told, {"reason": cut_fault(ring, cut)})

    def test_no_order_does_with_less(self):
        for ring in small_starts(True):
            if is_low(ring) and len(ring) < 4:
                for cut in cuttings(ring):
                    if cut_fault(ring, cut) is None:
                        self.assertEqual(fewest_changes(ring, cut), least_wakings(ring, cut))
        for ring in (Beads([0, 0, 1, 0]), Beads([1, 0, 2, 1], [1, 1, 3, 2]), Beads([0, 2, 0, 1], [2, 3, 1, 1])):
            for cut in cuttings(ring):
                if cut_fault(ring, cut) is None:
                    self.assertEqual(fewest_changes(ring, cut), least_wakings(ring, cut))

    def test_ordinary(self):
        ring = Beads([0, 0, 2, 4], [1, 2, 3, 6])
        self.assertEqual(least_wakings(ring, (0,)), 4)
        self.assertEqual(least_wakings(ring, (3,)), 1)
        self.assertEqual(least_wakings(ring, (0, 3)), 4)
        self.assertEqual(least_wakings(Beads([1]), (0,)), 0)
        self.assertEqual(least_wakings(Beads([0]), (0,)), 1)
        self.assertEqual(least_wakings(Beads([0, 0, 0]), (0, 1, 2)), 3)
        self.assertEqual(least_wakings(Beads([1, 1, 0]), (0, 1, 2)), 1)

    def test_a_head_that_passes_one_bead_after_the_other(self):
        lengths = [1] + [2 ** k for k in range(29)]
        blocked = Beads([0] + lengths[1:], lengths)
        self.assertEqual(raised(self, NoEnd, least_wakings, blocked, (0,)), {"reason": ("blocked", 0, 1)})
        ring = Beads([0] + [length - 1 for length in lengths[1:]], lengths)
        self.assertEqual(least_wakings(ring, (0,)), 30)
        self.assertEqual(plan_cut(ring, (0,)), [(0,)] * 30)

    def test_errors_in_their_order(self):
        for cut in ((0,), (), (9,)):
            self.assertEqual(raised(self, WrongKind, least_wakings, ROW, cut), {"ring": False})
            self.assertEqual(raised(self, WrongKind, least_wakings, Beads([2, 0], ring=False), cut), {"ring": False})
        for ring in (HIGH, Beads([1, 1, 1]), Beads([3, 3, 3])):
            for cut in ((), (0, 1), (3,), [2, 0]):
                self.assertEqual(raised(self, BadCut, least_wakings, ring, cut), {"cut": tuple(cut)})
        # A level ring that is not low is a wrong start, even if the cutting could not be had from it.
        self.assertEqual(raised(self, WrongStart, least_wakings, Beads([3] * 6), (0, 2, 4)), {})
        self.assertEqual(raised(self, WrongStart, least_wakings, Beads([3, 3], [2, 4]), (0,)), {})


def slow_finish(ring, cut):
    """The order and the ring at the end of point 37, bead by bead."""
    order, now = [], ring
    for head in cut:
        inner, place = [], (head + 1) % len(ring)
        while place not in cut:
            inner, place = inner + [place], (place + 1) % len(ring)
        while inner:
            place = inner[-1]
            if slow_reach(now, place) == now.strengths[place]:
                inner.pop()
                continue
            order.append((place,))
            strengths = list(now)
            strengths[place] = slow_reach(now, place)
            now = Beads(strengths, ring.lengths)
    return order, now


class Finishing(unittest.TestCase):
    def test_by_the_words_of_the_document(self):
        settled = 0
        for ring in standings(strengths=(0, 1, 2, 3, 4, 5), kinds=(True,)):
            cut = settled_cut(ring)
            if cut is None:
                self.assertEqual(raised(self, NotSettled, finish, ring), {})
                continue
            settled += 1
            told = finish(ring)
            self.assertIsInstance(told, tuple)
            self.assertEqual(told, slow_finish(ring, cut))
            order, end = told
            self.assertIsInstance(order, list)
            self.assertTrue(all(isinstance(handful, tuple) for handful in order))
            self.assertEqual(run_order(ring, order)[0], end)
            self.assertEqual((at_rest(end), settled_cut(end)), (True, cut))
        self.assertGreater(settled, 100)

    def test_ordinary(self):
        self.assertEqual(finish(Beads([1])), ([], Beads([1])))
        self.assertEqual(finish(Beads([4, 0, 0, 4, 0, 1], [1, 2, 1, 2, 1, 1])),
                         ([(2,), (1,), (1,), (4,)],
                          Beads([4, 3, 1, 4, 1, 1], [1, 2, 1, 2, 1, 1])))
        # The first arc in the order of the heads is that of bead 1, which goes over the end of the ring.
        order, end = finish(Beads([0, 3, 0, 0, 3, 0]))
        self.assertEqual(order, [(3,), (2,), (0,), (5,)])
        self.assertEqual(end, Beads([1, 3, 1, 1, 3, 1]))

    def test_errors_in_their_order(self):
        for row in (ROW, Beads([3, 0, 0], ring=False), Beads([1], ring=False)):
            self.assertEqual(raised(self, WrongKind, finish, row), {"ring": False})
        for ring in (Beads([0]), Beads([2]), Beads([2, 2, 0, 0]), Beads([3, 0, 3, 0])):
            self.assertEqual(raised(self, NotSettled, finish, ring), {})

    def test_many_beads(self):
        for many in (120, 150):
            lengths = [1 + k for k in mixed(many // 2, 4)] * 2
            half = sum(lengths) // 2
            inner = mixed(many // 2 - 1, half - 1)
            ring = Beads(([half] + inner) * 2, lengths)
            order, end = finish(ring)
            self.assertEqual((order, end), slow_finish(ring, (0, many // 2)))
            self.assertIs(at_rest(end), True)
