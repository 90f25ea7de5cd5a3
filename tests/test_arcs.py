import unittest
from itertools import combinations, product

from retinue.arcs import arc_length, cuttings, least_arc, resting_cut, settled_cut
from retinue.beads import Beads
from retinue.errors import BadCut, NotAtRest, WrongKind
from retinue.trains import leaders_of
from retinue.waking import at_rest, restless, wake
from tests.support import handfuls, raised, standings

ROW = Beads([1, 1, 1], ring=False)


def slow_arcs(beads, cut):
    """The sums of the arcs by the words of the document: each arc bead by bead."""
    sums = []
    for head in cut:
        total, at = beads.lengths[head], (head + 1) % len(beads)
        while at not in cut:
            total, at = total + beads.lengths[at], (at + 1) % len(beads)
        sums.append(total)
    return sums


def slow_cuttings(beads):
    """All cuttings with their arc lengths, in the order of the document."""
    found = []
    for many in range(1, len(beads) + 1):
        for cut in combinations(range(len(beads)), many):
            sums = slow_arcs(beads, cut)
            if min(sums) == max(sums):
                found.append((cut, sums[0]))
    return found


def rings_with_lengths():
    """Yield rings of many shapes, of up to 6 beads."""
    for many in range(1, 7):
        for lengths in product((1, 2, 3), repeat=many):
            yield Beads([0] * many, lengths)


class Cuttings(unittest.TestCase):
    def test_by_the_words_of_the_document(self):
        for ring in rings_with_lengths():
            self.assertEqual(cuttings(ring), [cut for cut, _ in slow_cuttings(ring)])

    def test_ordinary(self):
        self.assertEqual(cuttings(Beads([9])), [(0,)])
        self.assertEqual(cuttings(Beads([0, 0], [1, 2])), [(0,), (1,)])
        self.assertEqual(cuttings(Beads([0, 5, 0, 0], [1, 1, 2, 2])),
                         [(0,), (1,), (2,), (3,), (1, 3), (0, 2, 3)])
        self.assertEqual(cuttings(Beads([0] * 4, [2, 1, 1, 2])),
                         [(0,), (1,), (2,), (3,), (0, 2), (0, 1, 3)])
        self.assertEqual([len(cut) for cut in cuttings(Beads([0] * 150)) if cut[0] == 0],
                         [1, 2, 3, 5, 6, 10, 15, 25, 30, 50, 75, 150])

    def test_a_row(self):
        self.assertEqual(raised(self, WrongKind, cuttings, ROW), {"ring": False})


class ArcLengths(unittest.TestCase):
    def test_all_tuples_of_places(self):
        for ring in rings_with_lengths():
            known = dict(slow_cuttings(ring))
            for many in range(1, len(ring) + 1):
                for cut in combinations(range(len(ring)), many):
                    for form in (cut, list(cut)):
                        if cut in known:
                            self.assertEqual(arc_length(ring, form), known[cut])
                        else:
                            self.assertEqual(raised(self, BadCut, arc_length, ring, form), {"cut": cut})

    def test_no_cutting(self):
        ring = Beads([0, 0, 0, 0])
        for cut in ((), (2, 0), (0, 0), (0, 2, 2), (4,), (-1,), (-4, -2), (0, 4), (1, 5), (-1, 1), (0, 1, 2, 3, 4),
                    (0, 1), (3, 1), (0, 2, 1, 3), (0, 1, 2)):
            self.assertEqual(raised(self, BadCut, arc_length, ring, cut), {"cut": cut})
            told = raised(self, BadCut, arc_length, ring, list(cut))
            self.assertEqual(told, {"cut": cut})
            self.assertIsInstance(told["cut"], tuple)

    def test_a_row_is_told_first(self):
        for cut in ((0,), (), (7,), (1, 0)):
            self.assertEqual(raised(self, WrongKind, arc_length, ROW, cut), {"ring": False})


def resting_rings():
    """Yield the rings at rest of up to 4 beads of small lengths."""
    for many in range(1, 5):
        for lengths in product((1, 2), repeat=many):
            for strengths in product(range(1, sum(lengths) + 1), repeat=many):
                ring = Beads(strengths, lengths)
                if at_rest(ring):
                    yield ring


class Settled(unittest.TestCase):
    def test_by_the_words_of_the_document(self):
        number = 0
        for ring in standings(strengths=(0, 1, 2, 3, 4), kinds=(True,)):
            strongest = tuple(p for p, s in enumerate(ring) if s == max(ring))
            expected = strongest if (strongest, max(ring)) in slow_cuttings(ring) else None
            self.assertEqual(settled_cut(ring), expected)
            number += expected is not None
        self.assertGreater(number, 50)

    def test_ordinary(self):
        self.assertEqual(settled_cut(Beads([2, 0, 2, 1])), (0, 2))
        self.assertIsNone(settled_cut(Beads([3, 0, 3, 1])))
        self.assertIsNone(settled_cut(Beads([2, 2, 0, 0])))
        self.assertEqual(settled_cut(Beads([7], [7])), (0,))
        self.assertIsNone(settled_cut(Beads([8], [7])))
        self.assertIsInstance(settled_cut(Beads([1])), tuple)
        self.assertEqual(raised(self, WrongKind, settled_cut, ROW), {"ring": False})

    def test_waking_leaves_the_heads(self):
        for ring in standings(strengths=(0, 1, 2, 3, 4), kinds=(True,)):
            cut = settled_cut(ring)
            if cut is not None:
                for handful in handfuls(len(ring)):
                    after = wake(ring, handful)
                    self.assertEqual((settled_cut(after), max(after)), (cut, max(ring)))


class Resting(unittest.TestCase):
    def test_rings_at_rest(self):
        number = 0
        for ring in resting_rings():
            self.assertEqual(resting_cut(ring), tuple(leaders_of(ring)))
            self.assertEqual(resting_cut(ring), settled_cut(ring))
            self.assertIsInstance(resting_cut(ring), tuple)
            number += 1
        self.assertGreater(number, 50)

    def test_ordinary(self):
        self.assertEqual(resting_cut(Beads([2, 1, 2, 1])), (0, 2))
        self.assertEqual(resting_cut(Beads([1])), (0,))

    def test_errors_in_their_order(self):
        for ring in standings(3, kinds=(True,)):
            if not at_rest(ring):
                self.assertEqual(raised(self, NotAtRest, resting_cut, ring), {"place": restless(ring)[0]})
        self.assertEqual(raised(self, NotAtRest, resting_cut, Beads([3, 1, 5])), {"place": 0})
        self.assertEqual(raised(self, NotAtRest, resting_cut, Beads([4, 0, 1, 0])), {"place": 1})
        for row in (ROW, Beads([0], ring=False)):
            self.assertEqual(raised(self, WrongKind, resting_cut, row), {"ring": False})


class LeastArcs(unittest.TestCase):
    def test_ordinary(self):
        ring = Beads([4, 1, 2], [3, 3, 4])
        self.assertEqual(least_arc(ring), 4)
        self.assertEqual([least_arc(ring, hand=hand) for hand in (1, 2, 3, 4, 5, 9, 10, 11, 120, 150)],
                         [4, 4, 4, 3, 2, 2, 1, 1, 1, 1])
        self.assertEqual(least_arc(Beads([20, 0], [3, 4])), 7)
        self.assertEqual(least_arc(Beads([20, 0], [3, 4]), hand=2), 4)
        self.assertEqual(least_arc(Beads([0, 0]), hand=2), 0)
        with self.assertRaises(TypeError):
            least_arc(ring, 2)

    def test_a_row(self):
        for hand in (1, 3):
            self.assertEqual(raised(self, WrongKind, least_arc, ROW, hand=hand), {"ring": False})

    def test_the_greatest_strength_never_becomes_less(self):
        for ring in standings(3, strengths=(0, 2, 4), kinds=(True,)):
            for hand in range(1, len(ring) + 1):
                least = least_arc(ring, hand=hand)
                seen, waiting = {ring.strengths}, [ring]
                while waiting:
                    now = waiting.pop()
                    self.assertGreaterEqual(max(now), least)
                    for handful in handfuls(len(ring)):
                        after = wake(now, handful)
                        if len(handful) <= hand and after.strengths not in seen:
                            seen.add(after.strengths)
                            waiting.append(after)
