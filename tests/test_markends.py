import unittest
from itertools import combinations

from retinue.arcs import cuttings
from retinue.beads import Beads
from retinue.ends import cut_fault, ends_of
from retinue.errors import BadCut, NoEnd
from retinue.markends import mark_ends, mark_fault, ring_of_marks, wipe_plan
from retinue.marks import Marks, wipe
from retinue.starts import is_low
from tests.support import all_marks, raised, slow_gap, slow_leaders, slow_mark_ends, slow_search, slow_wake


def is_sound(marks, end):
    """Whether the places can be asked for, by the words of the document."""
    if len(end) == 0 or any(a >= b for a, b in zip(end, end[1:])) or any(p not in marks.places for p in end):
        return False
    return len({slow_gap(marks.size, end, place) for place in end}) == 1


def slow_fault(marks, end):
    """Look once around the ring for the first mark that blocks."""
    for steps in range(marks.size):
        mark = (end[0] + steps) % marks.size
        if mark in marks.places and mark not in end:
            back = 1
            while (mark - back) % marks.size not in end:
                back += 1
            if slow_gap(marks.size, marks.places, mark) >= back:
                return "blocked", (mark - back) % marks.size, mark
    return None


def some_ends(marks):
    """Yield all ascending tuples of places, and some that do not ascend or that go too far."""
    for many in range(marks.size + 1):
        yield from combinations(range(marks.size), many)
    first = marks.places[0]
    yield from ((first, first), (first + 1, first), (-1,), (marks.size,), (first, first + marks.size),
                marks.places[::-1] + (first,))


class Faults(unittest.TestCase):
    def test_by_the_words_of_the_document(self):
        for marks in all_marks(range(1, 8)):
            ends = slow_mark_ends(marks.size, marks.places)
            for end in some_ends(marks):
                if not is_sound(marks, end):
                    for form in (end, list(end)):
                        self.assertEqual(raised(self, BadCut, mark_fault, marks, form), {"cut": end})
                    self.assertNotIn(end, ends)
                    continue
                fault = mark_fault(marks, list(end))
                self.assertEqual(fault, slow_fault(marks, end))
                self.assertEqual(mark_fault(marks, end), fault)
                self.assertIs(fault is None, end in ends)

    def test_ordinary(self):
        marks = Marks(5, [3, 0])
        self.assertEqual([mark_fault(marks, (3,)), mark_fault(marks, [0])], [("blocked", 3, 0), None])
        # The search begins at the first place of the end, so the mark 6 is met before the mark 0.
        self.assertEqual(mark_fault(Marks(10, [0, 4, 6, 9]), (4, 9)), ("blocked", 4, 6))
        self.assertEqual(mark_fault(Marks(10, [0, 4, 7, 9]), (4, 9)), ("blocked", 9, 0))
        self.assertIsNone(mark_fault(Marks(10, [0, 1, 4, 5, 6, 9]), [1, 6]))

    def test_each_cause_of_a_bad_cut(self):
        marks = Marks(12, [0, 2, 4, 6, 7, 8])
        for end in ((), (0, 6, 4), (0, 0), (0, 3), (12,), (-4,), (0, 4), (0, 2, 4), (6, 0), (0, 6, 6), (0, 6, 12)):
            for form in (end, list(end)):
                for call in (mark_fault, wipe_plan):
                    told = raised(self, BadCut, call, marks, form)
                    self.assertEqual(told, {"cut": end})
                    self.assertIsInstance(told["cut"], tuple)

    def test_an_end_that_is_all_marks(self):
        for marks in (Marks(6, [0, 2, 4]), Marks(6, [5]), Marks(6, range(6)), Marks(1, [0])):
            self.assertIsNone(mark_fault(marks, marks.places))
            self.assertEqual(mark_ends(marks), [marks.places])
            self.assertEqual(wipe_plan(marks, marks.places), [])
        self.assertEqual(mark_fault(Marks(6, [0, 2, 4]), (2,)), ("blocked", 2, 4))


class Ends(unittest.TestCase):
    def test_by_the_words_of_the_document(self):
        for marks in all_marks(range(1, 10)):
            ends = slow_mark_ends(marks.size, marks.places)
            told = mark_ends(marks)
            self.assertEqual(told, sorted(ends, key=lambda end: (len(end), end[0])))
            self.assertTrue(all(isinstance(end, tuple) for end in told))
            if len(set(marks.gaps)) > 1:
                self.assertEqual(len(told[0]), 1)

    def test_plans(self):
        for marks in all_marks(range(1, 9)):
            for end in mark_ends(marks):
                for form in (end, list(end)):
                    plan = wipe_plan(marks, form)
                    self.assertEqual(len(plan), len(marks) - len(end))
                    self.assertIsInstance(plan, list)
                    now = marks
                    for place in plan:
                        now = wipe(now, place)
                    self.assertEqual(now.places, end)

    def test_no_end(self):
        for marks in all_marks(range(1, 8)):
            for end in some_ends(marks):
                if not is_sound(marks, end):
                    self.assertEqual(raised(self, BadCut, wipe_plan, marks, end), {"cut": end})
                elif mark_fault(marks, end) is not None:
                    self.assertEqual(raised(self, NoEnd, wipe_plan, marks, end), {"reason": slow_fault(marks, end)})

    def test_ordinary(self):
        self.assertEqual(mark_ends(Marks(5, [3, 0])), [(0,)])
        marks = Marks(6, [0, 2, 3, 5])
        self.assertEqual(mark_ends(marks), [(0,), (3,), (0, 3)])
        self.assertEqual(wipe_plan(marks, (0, 3)), [0, 3])
        self.assertEqual(wipe_plan(marks, [3]), [3, 3, 3])

    def test_sixty_places_and_more(self):
        for size in (60, 72):
            for chosen in ((0, 1, 3, 4), (0, 2), (0, 1, 2, 3, 4)):
                marks = Marks(size, [place for place in range(size) if place % 6 in chosen])
                for end in mark_ends(marks):
                    now = marks
                    for place in wipe_plan(marks, end):
                        now = wipe(now, place)
                    self.assertEqual(now.places, end)
        self.assertIn(tuple(range(0, 60, 6)), mark_ends(Marks(60, [p for p in range(60) if p % 6 in (0, 4)])))


class Rings(unittest.TestCase):
    def test_by_the_words_of_the_document(self):
        for marks in all_marks(range(1, 8)):
            ring = ring_of_marks(marks)
            gaps = [slow_gap(marks.size, marks.places, place) for place in marks.places]
            self.assertEqual(ring, Beads(gaps, gaps))
            self.assertIs(is_low(ring), True)
            cuts = [tuple(marks.places[number] for number in cut) for cut in ends_of(ring)]
            self.assertEqual(cuts, mark_ends(marks))
            for cut in cuttings(ring):
                end = tuple(marks.places[number] for number in cut)
                self.assertIs(mark_fault(marks, end) is None, cut_fault(ring, cut) is None)

    def test_the_rings_end_as_the_marks_do(self):
        # By a search over all wakings, without the functions for low rings.
        for marks in all_marks(range(1, 7)):
            ring = ring_of_marks(marks)
            found = set()
            for strengths in slow_search(ring, len(ring)):
                now = Beads(strengths, ring.lengths)
                if slow_wake(now, range(len(now))) == strengths:
                    found.add(tuple(marks.places[number] for number in slow_leaders(now)))
            self.assertEqual(found, slow_mark_ends(marks.size, marks.places))

    def test_ordinary(self):
        self.assertEqual(ring_of_marks(Marks(7, [5, 0, 3])), Beads([3, 2, 2], [3, 2, 2]))
        self.assertEqual(ring_of_marks(Marks(7, [5])), Beads([7], [7]))
