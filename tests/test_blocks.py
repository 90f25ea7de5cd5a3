import unittest
from itertools import combinations, product

from retinue.beads import Beads
from retinue.blocks import block_sums, forced_heads, row_fault, row_plan
from retinue.errors import BadCut, NoEnd, WrongKind, WrongStart
from retinue.starts import is_level, is_low
from retinue.trains import leaders_of
from retinue.waking import at_rest, run_order, wake
from tests.support import handfuls, mixed, raised, slow_ends, slow_held, small_starts

RING = Beads([1, 1, 1])
HIGH = Beads([2, 1, 1], ring=False)
NO_CUTS = ((), (1,), (1, 2), (0, 2, 1), (0, 0), (0, 3), (-1, 0), (-1,), (0, 1, 2, 3), (0, 2, 2))


def cuts_of(many):
    """Yield all cuts of a row of so many beads."""
    for chosen in handfuls(many - 1):
        yield (0,) + tuple(place + 1 for place in chosen)


def slow_sums(row, cut):
    """The sums of the blocks, bead by bead."""
    sums = []
    for place, length in enumerate(row.lengths):
        if place in cut:
            sums.append(0)
        sums[-1] += length
    return sums


def slow_row_fault(row, cut):
    """The fault of a cut by the words of the document, bead by bead."""
    sums = slow_sums(row, cut)
    for number, head in enumerate(cut):
        before, place = row.lengths[head], head + 1
        while place < len(row) and place not in cut:
            if slow_held(row, place, before):
                return ("blocked", head, place)
            before, place = before + row.lengths[place], place + 1
        if number > 0 and sums[number] < sums[number - 1]:
            return ("falls", head)
    return None


class Sums(unittest.TestCase):
    def test_by_the_words_of_the_document(self):
        for many in range(1, 6):
            for lengths in product((1, 3), repeat=many):
                row = Beads([0] * many, lengths, ring=False)
                for cut in cuts_of(many):
                    self.assertEqual(block_sums(row, cut), slow_sums(row, cut))
                    self.assertEqual(block_sums(row, list(cut)), slow_sums(row, cut))

    def test_ordinary(self):
        row = Beads([5, 0, 0, 0], [1, 2, 3, 4], ring=False)
        self.assertEqual(block_sums(row, (0,)), [10])
        self.assertEqual(block_sums(row, (0, 3)), [6, 4])
        self.assertEqual(block_sums(row, (0, 1, 2, 3)), [1, 2, 3, 4])
        self.assertEqual(block_sums(Beads([0], [7], ring=False), [0]), [7])

    def test_errors_in_their_order(self):
        for cut in ((0,),) + NO_CUTS:
            self.assertEqual(raised(self, WrongKind, block_sums, RING, cut), {"ring": True})
        for cut in NO_CUTS:
            for row in (HIGH, Beads([0, 0, 0], ring=False)):
                self.assertEqual(raised(self, BadCut, block_sums, row, cut), {"cut": cut})
                self.assertEqual(raised(self, BadCut, block_sums, row, list(cut)), {"cut": cut})

    def test_leaders_of_rows_at_rest(self):
        number = 0
        for many in range(1, 5):
            for lengths in product((1, 2), repeat=many):
                for strengths in product(range(1, sum(lengths) + 1), repeat=many):
                    row = Beads(strengths, lengths, ring=False)
                    if at_rest(row):
                        cut = leaders_of(row)
                        sums = block_sums(row, cut)
                        self.assertEqual(sums, [strengths[head] for head in cut])
                        self.assertEqual(sums, sorted(sums))
                        number += 1
        self.assertGreater(number, 50)


class Faults(unittest.TestCase):
    def test_by_the_words_of_the_document(self):
        words = {"falls": 0, "blocked": 0, None: 0}
        for row in small_starts(False):
            for cut in cuts_of(len(row)):
                expected = slow_row_fault(row, cut)
                words[expected and expected[0]] += 1
                self.assertEqual(row_fault(row, cut), expected)
                self.assertEqual(row_fault(row, list(cut)), expected)
        self.assertGreater(min(words.values()), 50)

    def test_exactly_the_cuts_that_a_search_finds(self):
        for row in small_starts(False):
            expected = {cut for cut in cuts_of(len(row)) if row_fault(row, cut) is None}
            self.assertEqual(slow_ends(row, 1), expected)
            self.assertEqual(slow_ends(row, len(row)), expected)

    def test_ordinary(self):
        row = Beads([2, 1, 2, 1, 3], [2, 1, 2, 1, 3], ring=False)
        self.assertIsNone(row_fault(row, (0,)))
        self.assertIsNone(row_fault(row, (0, 2, 4)))
        self.assertEqual(row_fault(row, (0, 1)), ("blocked", 1, 2))
        self.assertEqual(row_fault(row, (0, 1, 2)), ("falls", 1))
        self.assertEqual(row_fault(row, (0, 4)), ("falls", 4))
        self.assertIsInstance(row_fault(row, (0, 4)), tuple)

    def test_the_blocks_are_searched_from_left_to_right(self):
        # The sum of the block of head 2 falls, and behind head 3 the bead 4 is held back.
        row = Beads([0, 0, 1, 1, 2], [1, 1, 1, 1, 2], ring=False)
        self.assertEqual(row_fault(row, (0, 2, 3)), ("falls", 2))
        self.assertEqual(row_fault(row, (0, 1, 3)), ("blocked", 1, 2))
        # Of one block the inner bead is told first, though the sum of the block falls, too.
        row = Beads([0, 0, 1, 1], [5, 1, 1, 1], ring=False)
        self.assertEqual(row_fault(row, (0, 1)), ("blocked", 1, 2))
        self.assertEqual(row_fault(row, (0, 1, 2)), ("falls", 1))

    def test_a_level_row_that_is_not_low(self):
        row = Beads([3, 3, 3, 3], [1, 2, 3, 6], ring=False)
        self.assertEqual(row_fault(row, (0,)), ("blocked", 0, 2))
        self.assertIsNone(row_fault(row, (0, 2, 3)))
        self.assertEqual(row_fault(row, (0, 2)), ("blocked", 2, 3))
        self.assertEqual(row_fault(row, (0, 1)), ("blocked", 1, 2))
        self.assertIsNone(row_fault(row, (0, 1, 2, 3)))
        self.assertIsNone(row_fault(Beads([4] * 3, [2, 3, 4], ring=False), (0,)))
        # A level row of equal short beads can end in blocks that are all shorter than the common strength.
        self.assertIsNone(row_fault(Beads([9] * 5, ring=False), (0, 1, 3)))

    def test_one_bead(self):
        for strength in (0, 3, 4, 9):
            self.assertIsNone(row_fault(Beads([strength], [4], ring=False), (0,)))

    def test_errors_in_their_order(self):
        for cut in ((0,),) + NO_CUTS:
            self.assertEqual(raised(self, WrongKind, row_fault, RING, cut), {"ring": True})
            self.assertEqual(raised(self, WrongKind, row_fault, Beads([2, 1, 1]), cut), {"ring": True})
        for row in (HIGH, Beads([0, 0, 0], ring=False), Beads([4, 4, 4], ring=False)):
            for cut in NO_CUTS:
                self.assertEqual(raised(self, BadCut, row_fault, row, cut), {"cut": cut})
                self.assertEqual(raised(self, BadCut, row_fault, row, list(cut)), {"cut": cut})
        for cut in cuts_of(3):
            self.assertEqual(raised(self, WrongStart, row_fault, HIGH, cut), {})


class Plans(unittest.TestCase):
    def check_plan(self, row, cut):
        order = row_plan(row, cut)
        self.assertIsInstance(order, list)
        self.assertLessEqual(len(order), 2 * len(row))
        for handful in order:
            self.assertIsInstance(handful, tuple)
            self.assertEqual(len(handful), 1)
        end = run_order(row, order)[0]
        self.check_settled(end, cut)
        return end

    def check_settled(self, row, cut):
        heads = [max(h for h in cut if h <= place) for place in range(len(row))]
        self.assertEqual([row.strengths[head] for head in cut], slow_sums(row, cut))
        for place, strength in enumerate(row):
            if place not in cut:
                self.assertLess(strength, row.strengths[heads[place]])

    def test_small_rows(self):
        plans = 0
        for row in small_starts(False):
            for cut in cuts_of(len(row)):
                reason = slow_row_fault(row, cut)
                if reason is None:
                    end = self.check_plan(row, cut)
                    self.check_plan(row, list(cut))
                    plans += 1
                    for handful in handfuls(len(row)):
                        self.check_settled(wake(end, handful), cut)
                else:
                    self.assertEqual(raised(self, NoEnd, row_plan, row, cut), {"reason": reason})
        self.assertGreater(plans, 500)

    def test_ordinary(self):
        self.assertEqual(row_plan(Beads([4], [4], ring=False), (0,)), [])
        self.assertEqual(row_plan(Beads([9], [4], ring=False), (0,)), [(0,)])
        self.assertEqual(row_plan(Beads([1, 2, 3], [1, 2, 3], ring=False), (0, 1, 2)), [])
        self.check_plan(Beads([5] * 12, ring=False), (0, 1, 3, 6))
        self.check_plan(Beads([9] * 12, ring=False), (0, 1, 2, 3, 4, 5, 6, 7, 8, 9, 10, 11))
        self.check_plan(Beads([3] * 12, ring=False), (0, 1, 2, 4, 7))
        self.check_plan(Beads([0] * 12, ring=False), (0, 1, 2, 4, 7))

    def test_many_beads(self):
        for many in (120, 150):
            lengths = [1 + k for k in mixed(many, 5)]
            starts = [Beads([many] * many, ring=False), Beads([0] * many, ring=False), Beads([4] * many, ring=False),
                      Beads([10 ** 12] * many, [10 ** 9] * many, ring=False),
                      Beads([k // 2 for k in lengths], lengths, ring=False)]
            for row in starts:
                self.check_plan(row, forced_heads(row))
            for cut in ((0,), (0, 1, 3, 6, 10, 15, 21), tuple(range(0, 60, 2)), tuple(range(many))):
                for row in starts[:4]:
                    self.check_plan(row, cut)

    def test_errors_in_their_order(self):
        for cut in ((0,),) + NO_CUTS:
            self.assertEqual(raised(self, WrongKind, row_plan, Beads([2, 1, 1]), cut), {"ring": True})
        for cut in NO_CUTS:
            self.assertEqual(raised(self, BadCut, row_plan, HIGH, list(cut)), {"cut": cut})
        self.assertEqual(raised(self, WrongStart, row_plan, HIGH, (0,)), {})
        row = Beads([2, 1, 2, 1, 3], [2, 1, 2, 1, 3], ring=False)
        self.assertEqual(raised(self, NoEnd, row_plan, row, (0, 1)), {"reason": ("blocked", 1, 2)})
        self.assertEqual(raised(self, NoEnd, row_plan, row, [0, 4]), {"reason": ("falls", 4)})


class Forced(unittest.TestCase):
    def test_heads_of_every_cut_that_can_be_had(self):
        for row in small_starts(False):
            ends = [cut for cut in cuts_of(len(row)) if slow_row_fault(row, cut) is None]
            common = tuple(p for p in range(len(row)) if all(p in cut for cut in ends))
            self.assertEqual(forced_heads(row), common)
            self.assertIn(forced_heads(row), ends)
            self.assertIsInstance(forced_heads(row), tuple)

    def test_ordinary(self):
        self.assertEqual(forced_heads(Beads([0], ring=False)), (0,))
        self.assertEqual(forced_heads(Beads([0, 0, 0], ring=False)), (0,))
        self.assertEqual(forced_heads(Beads([1, 1, 1], ring=False)), (0, 1, 2))
        self.assertEqual(forced_heads(Beads([1, 0, 2, 2, 1], [1, 1, 2, 2, 9], ring=False)), (0, 2, 3))
        self.assertEqual(forced_heads(Beads([3] * 5, [1, 2, 3, 2, 4], ring=False)), (0, 2))
        self.assertEqual(forced_heads(Beads([5] * 5, [1, 2, 3, 2, 9], ring=False)), (0,))
        self.assertEqual(forced_heads(Beads([8] * 5, [1, 2, 3, 2, 9], ring=False)), (0, 4))
        self.assertEqual(forced_heads(Beads([9] * 150, ring=False)), (0,))

    def test_errors_in_their_order(self):
        for ring in (RING, Beads([2, 1, 1]), Beads([0])):
            self.assertEqual(raised(self, WrongKind, forced_heads, ring), {"ring": True})
        self.assertEqual(raised(self, WrongStart, forced_heads, HIGH), {})
        for row in small_starts(False):
            self.assertTrue(is_low(row) or is_level(row))


class Cuts(unittest.TestCase):
    def test_exactly_the_cuts_are_taken(self):
        row = Beads([0] * 4, ring=False)
        for many in range(1, 5):
            for places in combinations(range(4), many):
                if places[0] == 0:
                    block_sums(row, places)
                else:
                    self.assertEqual(raised(self, BadCut, block_sums, row, places), {"cut": places})
