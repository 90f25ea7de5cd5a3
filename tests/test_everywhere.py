"""What holds for the whole program: points 1 and 4, and the examples of the interface."""

import copy
import unittest

from retinue.arcs import arc_length, cuttings, least_arc, resting_cut, settled_cut
from retinue.back import last_wakers, strengths_before
from retinue.beads import Beads
from retinue.blocks import block_sums, forced_heads, row_fault, row_plan
from retinue.books import books_of
from retinue.desk import Desk
from retinue.ends import cut_fault, ends_of
from retinue.even import even_marks, golden_marks, is_golden, remainders
from retinue.forest import origin_of, outcome_fault
from retinue.hands import good_wipes, last_hand
from retinue.journal import Journal
from retinue.leading import can_lead, lead_plan, locked_heads, tall_plan
from retinue.lineage import least_total, lineage_of, most_rounds
from retinue.lookers import lineage_fault, log_fault, order_fault, paper_fault, wipe_fault
from retinue.markends import mark_ends, mark_fault, ring_of_marks, wipe_plan
from retinue.markrounds import before_at, count_before, mark_round, mark_rounds
from retinue.marks import Marks, wipe, wipers_of
from retinue.notation import read_beads, read_order, write_beads, write_order
from retinue.orders import count_orders, order_at, woken_once
from retinue.plans import finish, least_wakings, plan_cut
from retinue.rests import count_rests, rest_at, rest_rank
from retinue.ringrests import count_ring_rests, ring_rest_at, ring_rest_rank
from retinue.rounds import final_heads, last_change, round_heads, rounds_of
from retinue.rowends import count_row_ends, most_leaders, row_end_at, row_end_rank
from retinue.sight import possible, sure_places
from retinue.starts import is_level, is_low
from retinue.sweeps import sweep_row
from retinue.tally import compare_tallies, tally_of, touched
from retinue.trains import (leaders_of, lords_of, reach_of, reaches, stopper_of, train_of)
from retinue.waking import (at_rest, changes_of, hungry, restless, run_order, unwind, wake,
                            wake_all)
from retinue.web import (Web, settle_web, told_to, wake_web, web_changes, web_of, web_tally)
from retinue.words import arc_word, sharp_start, short_start

RING = Beads([0, 5, 1, 2], [1, 2, 1, 2])
ROW = Beads([0, 5, 1, 2], [1, 2, 1, 2], ring=False)
REST = Beads([2, 1, 2, 1])
OUTCOME = Beads([3, 1, 1], ring=False)
SOLE = Beads([2, 1, 5, 1, 1])
LEVEL = Beads([3, 3, 3, 3])
LOW = Beads([0, 0, 1, 2], [1, 2, 1, 4])
LOW_ROW = Beads([0, 0, 2, 0], [1, 1, 2, 3], ring=False)
SETTLED = Beads([3, 0, 0, 3], [1, 1, 1, 3])
TALL = Beads([6, 2, 7, 5], [1, 2, 1, 1])
SHARP = Beads([2, 1, 2, 2, 1])
SEEN = [None, 2, None]
MARKS = Marks(6, [0, 2, 3, 5])
LOG = run_order(RING, [[0], [3, 1, 1], []])[1]
WEB = web_of(RING)
LOOK = ["all", [["sum", 1, [(0, 2)]], ("run", 1, ((0, 2),))]]

CALLS = [
    (Beads, [3, 1], [1, 2]), (RING.total,), (RING.greatest,), (RING.with_strength, 1, 4), (RING.as_row, 2),
    (train_of, RING, 1), (reach_of, RING, 1), (stopper_of, RING, 1), (reaches, RING), (lords_of, RING),
    (leaders_of, ROW), (outcome_fault, RING), (origin_of, OUTCOME), (changes_of, RING, [3, 0, 3]),
    (changes_of, RING, (3, 0, 3)), (wake, RING, [3, 0, 3]), (wake_all, RING), (restless, RING),
    (hungry, RING), (at_rest, RING), (run_order, RING, [[2, 0, 0], (1,), []]), (run_order, RING, ((2, 0, 0), [1])),
    (unwind, run_order(RING, [[0], [3, 1, 1], []])[0], LOG), (tally_of, RING),
    (compare_tallies, [(0, 1), (4, 2)], [(4, 2), (5, 1)]), (touched, RING, [3, 0, 3]),
    (strengths_before, REST, 0), (last_wakers, REST), (Web, [LOOK], [3]), (told_to, WEB, 1),
    (web_changes, WEB, [3, 0, 3]), (wake_web, WEB, [3, 0, 3]), (web_tally, WEB), (settle_web, WEB),
    (web_of, RING), (sweep_row, ROW), (cuttings, REST), (arc_length, REST, [0, 2]), (settled_cut, REST),
    (resting_cut, REST), (least_arc, REST), (is_low, RING), (is_level, RING),
    (cut_fault, LEVEL, [0, 2]), (cut_fault, LOW, (0, 3)), (cut_fault, LOW, [2]), (ends_of, LEVEL), (ends_of, LOW),
    (plan_cut, LEVEL, [0]), (plan_cut, LOW, (0, 3)), (least_wakings, LOW, [0, 3]), (finish, SETTLED),
    (locked_heads, REST), (locked_heads, RING), (lead_plan, RING), (lead_plan, LEVEL), (can_lead, TALL),
    (tall_plan, TALL, 0), (block_sums, ROW, [0, 2]), (row_fault, LOW_ROW, [0, 3]), (row_fault, LOW_ROW, (0, 1)),
    (row_plan, LOW_ROW, [0, 2]), (forced_heads, LOW_ROW), (count_row_ends, LOW_ROW), (row_end_at, LOW_ROW, 1),
    (row_end_rank, LOW_ROW, [0, 2]), (most_leaders, LOW_ROW),
    (rounds_of, SHARP), (rounds_of, REST), (last_change, SHARP, 0), (round_heads, SHARP), (round_heads, REST),
    (final_heads, SHARP), (books_of, SHARP), (books_of, REST), (lineage_of, SHARP, 0), (least_total, 3),
    (most_rounds, 7), (arc_word, 4), (sharp_start, 3), (short_start, 4), (count_rests, [1, 1, 1]),
    (count_rests, [1, 1, 1], SEEN), (rest_at, [1, 1, 1], 1), (rest_at, (1, 1, 1), 0, SEEN), (rest_rank, OUTCOME),
    (possible, [1, 1, 1], SEEN, 0), (possible, (1, 1, 1), None, 0), (sure_places, [1, 1, 1], SEEN),
    (count_ring_rests, [1, 1, 1]), (count_ring_rests, (1, 2, 1), SEEN), (ring_rest_at, [1, 1, 1], 1),
    (ring_rest_at, [1, 1, 1], 0, SEEN), (ring_rest_rank, REST), (woken_once, [1, 2, 1], [2, 0, 1]),
    (count_orders, OUTCOME), (order_at, OUTCOME, 0), (order_at, SOLE, 1), (Marks, 6, [5, 0, 3]), (wipers_of, MARKS),
    (wipe, MARKS, 0), (mark_fault, MARKS, [0, 3]), (mark_fault, MARKS, (2, 5)), (mark_ends, MARKS),
    (wipe_plan, MARKS, [3]), (ring_of_marks, MARKS), (last_hand, MARKS), (good_wipes, Marks(6, [0, 1, 4])),
    (mark_round, MARKS), (mark_rounds, MARKS), (count_before, MARKS), (before_at, Marks(9, [5, 0]), 2),
    (even_marks, 8, 5), (remainders, 60, 36), (golden_marks, 3), (is_golden, MARKS), (write_beads, RING),
    (read_beads, "row 3 1*2 0"), (write_order, [[3, 0, 3], ()]), (read_order, "0,3 - 2"), (Journal, RING),
    (order_fault, LEVEL, [[3, 1, 1], (0,)], [0, 2]), (order_fault, LEVEL, ([1], [2, 9]), (0, 2)), (log_fault, RING, LOG),
    (paper_fault, [[(0, 1)], [(0, 2), (1, 1)]]), (lineage_fault, SHARP, 0, [(3, 3), (2, 2)]),
    (wipe_fault, MARKS, [0, 3], [0, 3]), (wipe_fault, MARKS, [0], (0, 3)),
]


def plain(value):
    """The value with standings, webs, marks and journals as dicts, and lists and tuples kept apart."""
    if isinstance(value, (Beads, Web, Marks, Journal)):
        return {name: plain(worth) for name, worth in vars(value).items()}
    if isinstance(value, (list, tuple)):
        return (value.__class__.__name__, [plain(item) for item in value])
    return value


def spoil(value):
    """Change every list within the value."""
    if isinstance(value, (list, tuple)):
        for item in value:
            spoil(item)
    if isinstance(value, list):
        value.append("spoiled")
        value.reverse()


class Everywhere(unittest.TestCase):
    def test_what_is_passed_stays(self):
        for call, *args in CALLS:
            with self.subTest(call=call, args=args):
                before = copy.deepcopy(plain(args))
                call(*args)
                self.assertEqual(plain(args), before)

    def test_what_was_returned_may_be_changed(self):
        for call, *args in CALLS:
            with self.subTest(call=call, args=args):
                first = call(*args)
                before = copy.deepcopy(plain(first))
                holders = copy.deepcopy([plain(args), plain(RING), plain(WEB), plain(MARKS)])
                spoil(first)
                self.assertEqual([plain(args), plain(RING), plain(WEB), plain(MARKS)], holders)
                self.assertEqual(plain(call(*args)), before)

    def test_a_list_and_a_tuple_are_taken_alike(self):
        for call, *args in CALLS:
            if call in (unwind, compare_tallies):
                continue
            turned = [tuple(arg) if isinstance(arg, list) else list(arg) if isinstance(arg, tuple) else arg
                      for arg in args]
            with self.subTest(call=call, args=turned):
                self.assertEqual(plain(call(*turned)), plain(call(*args)))

    def test_pairs_are_tuples(self):
        pairs = [outcome_fault(RING), run_order(RING, []), *LOG, *tally_of(RING), touched(RING, [0, 1]),
                 strengths_before(REST, 0), settle_web(WEB), sweep_row(ROW), *web_tally(WEB), finish(SETTLED),
                 *lineage_of(SHARP, 0), *sure_places([1, 1, 1], SEEN)]
        for pair in pairs:
            self.assertIsInstance(pair, tuple)
            self.assertEqual(len(pair), 2)
        for change in changes_of(RING, [0, 1, 3]) + web_changes(WEB, [0, 1, 3]):
            self.assertIsInstance(change, tuple)

    def test_big_numbers(self):
        ring = Beads([10 ** 12] * 119 + [0], [10 ** 9] * 120)
        self.assertEqual(ring.total(), 120 * 10 ** 9)
        self.assertEqual(reaches(ring), [10 ** 9] * 118 + [2 * 10 ** 9, 10 ** 9])
        self.assertEqual(cuttings(ring)[-1], tuple(range(120)))
        self.assertEqual(settled_cut(Beads([120 * 10 ** 9] + [0] * 119, [10 ** 9] * 120)), (0,))

    def test_somewhat_more_than_120_beads(self):
        for ring in (True, False):
            beads = Beads([k % 7 for k in range(150)], [1 + k % 3 for k in range(150)], ring=ring)
            places = list(range(150))
            self.assertEqual(wake_all(beads), wake(beads, places))
            self.assertEqual(web_changes(web_of(beads), places), changes_of(beads, places))
            self.assertEqual(web_tally(web_of(beads)), tally_of(beads))
            self.assertIsNone(outcome_fault(wake_all(beads)))
            self.assertEqual(wake_all(origin_of(wake_all(beads))), wake_all(beads))
            self.assertIsNotNone(touched(beads, places))
        order, end = sweep_row(Beads([0] * 150, [150] + [1] * 149, ring=False))
        self.assertIs(at_rest(end), True)
        self.assertEqual(run_order(Beads([0] * 150, [150] + [1] * 149, ring=False), order)[0], end)


class Examples(unittest.TestCase):
    def test_beads(self):
        row = Beads([3, 1, 2, 4]).as_row(2)
        self.assertEqual([row.strengths, row.lengths, row.ring], [(2, 4, 3, 1), (1, 1, 1, 1), False])

    def test_trains(self):
        beads = Beads([3, 1, 2, 4])
        told = [train_of(beads, 0), stopper_of(beads, 0), stopper_of(beads, 3), lords_of(beads)]
        self.assertEqual(told, [[1, 2], 3, None, [3, 0, 0, None]])

    def test_forest(self):
        told = [outcome_fault(Beads([2, 2])), origin_of(Beads([3, 1, 1], ring=False)).strengths]
        self.assertEqual(told, [(0, 1), (1, 0, 0)])

    def test_waking(self):
        self.assertEqual(changes_of(Beads([3, 1, 2], ring=False), [2, 0, 2]), [(2, 2, 1)])

    def test_tally(self):
        told = [tally_of(Beads([2, 2])), touched(Beads([2, 2]), [0, 1]), tally_of(Beads([1, 1]))]
        self.assertEqual(told, [[(2, 2)], (1, 2), [(1, 2)]])

    def test_back(self):
        told = [strengths_before(Beads([2, 1]), 0), strengths_before(Beads([1, 2]), 0)]
        self.assertEqual(told, [(2, None), (0, 2)])

    def test_web(self):
        web = Web([("most", [("sum", 1, [(1, 2)]), ("top", 0, [(1, 5)])]), ("run", 2, [(0, 3), (1, 4)])], [3, 0])
        self.assertEqual([told_to(web, 0), told_to(web, 1), settle_web(web)[1]], [5, 2, 1])

    def test_arcs(self):
        self.assertEqual(cuttings(Beads([0, 0, 0, 0])), [(0,), (1,), (2,), (3,), (0, 2), (1, 3), (0, 1, 2, 3)])

    def test_ends(self):
        level = Beads([3, 3, 3, 3, 3, 3])
        low = Beads([3, 2, 1], [3, 2, 1])
        told = [cut_fault(level, (0, 2, 4)), cut_fault(level, (0, 2, 4), hand=3), cut_fault(low, (1,))]
        self.assertEqual(told, [("short", 2, 3), None, ("blocked", 1, 0)])

    def test_rowends(self):
        row = Beads([2, 1, 2, 1, 3], [2, 1, 2, 1, 3], ring=False)
        told = [count_row_ends(row), row_end_at(row, 0), row_end_at(row, 1), most_leaders(row)]
        self.assertEqual(told, [2, (0,), (0, 2, 4), 3])

    def test_rounds(self):
        beads = Beads([2, 1, 2])
        self.assertEqual([rounds_of(beads), round_heads(beads)], [[(2, 1, 2), (2, 1, 1), (3, 1, 1)], [[0, 2], [0]]])

    def test_lineage(self):
        told = [lineage_of(Beads([2, 1, 2, 2, 1]), 0), least_total(4), most_rounds(7)]
        self.assertEqual(told, [[(3, 3), (2, 2)], 8, 3])

    def test_words(self):
        told = [arc_word(3), sharp_start(3).strengths, short_start(4).lengths]
        self.assertEqual(told, ["10010", (2, 1, 2, 2, 1), (2, 1, 2, 3)])

    def test_rests(self):
        told = [count_rests([1, 1, 1]), rest_at([1, 1, 1], 1).strengths, count_rests([1, 1, 1], [None, 2, None])]
        self.assertEqual(told, [4, (1, 2, 1), 2])

    def test_sight(self):
        told = [possible([1, 1, 1], [None, 2, None], 0), sure_places([1, 1, 1], [None, 2, None])]
        self.assertEqual(told, [[1, 3], [(1, 2), (2, 1)]])

    def test_ringrests(self):
        told = [count_ring_rests([1, 1, 1]), ring_rest_at([1, 1, 1], 3).strengths, ring_rest_at([1, 1, 1], 6).strengths]
        self.assertEqual(told, [7, (1, 3, 2), (1, 1, 1)])

    def test_orders(self):
        row = woken_once([1, 1, 1], [2, 0, 1])
        told = [row.strengths, count_orders(row), order_at(row, 0), order_at(row, 1)]
        self.assertEqual(told, [(1, 2, 1), 2, [0, 2, 1], [2, 0, 1]])

    def test_markends(self):
        marks = Marks(5, [3, 0])
        self.assertEqual([marks.gaps, mark_ends(marks), mark_fault(marks, (3,))], [(3, 2), [(0,)], ("blocked", 3, 0)])

    def test_markrounds(self):
        marks = Marks(5, [0])
        self.assertEqual([count_before(marks), before_at(marks, 0).gaps, before_at(marks, 4).gaps],
                         [5, (2, 1, 1, 1), (5,)])

    def test_even(self):
        self.assertEqual([even_marks(5, 2).places, remainders(60, 36), golden_marks(2).gaps],
                         [(0, 3), [36, 24, 12], (2, 1, 2)])

    def test_notation(self):
        self.assertEqual([write_beads(Beads([3, 1, 0], [1, 2, 1])), read_order("0,3 - 2")],
                         ["ring 3 1*2 0", [(0, 3), (), (2,)]])

    def test_desk(self):
        told = Desk().tell_all(["new a ring 2 1 2", "wake a 2 0", "show a", "heads a", "undo a", "show a", "rest a"])
        self.assertEqual(told, ["ok", "2", "ring 3 1 1", "0", "1", "ring 2 1 1", "no"])
