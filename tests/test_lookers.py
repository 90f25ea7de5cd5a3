import copy
import unittest
from itertools import combinations, product

from retinue.arcs import arc_length, cuttings, settled_cut
from retinue.beads import Beads
from retinue.ends import ends_of
from retinue.errors import BadCut, BadPlace, NoLineage, WrongKind
from retinue.journal import Journal
from retinue.lineage import lineage_of
from retinue.lookers import lineage_fault, log_fault, order_fault, paper_fault, wipe_fault
from retinue.markends import mark_ends, wipe_plan
from retinue.marks import Marks
from retinue.plans import finish, plan_cut
from retinue.rounds import last_change
from retinue.tally import compare_tallies
from retinue.waking import run_order
from retinue.words import sharp_start, short_start
from tests.support import all_marks, handfuls, mixed, raised, slow_wake, slow_wipes, small_starts, standings


def slow_order_fault(beads, order, cut):
    """By the words of the document, for a cutting."""
    for index, handful in enumerate(order):
        if any(place not in range(len(beads)) for place in handful):
            return "place", index
    strengths = beads.strengths
    for handful in order:
        strengths = slow_wake(Beads(strengths, beads.lengths), handful)
    length = sum(beads.lengths) // len(cut)
    wrong = [("head", place) for place in sorted(cut) if strengths[place] != length]
    wrong += [("bead", p) for p in range(len(beads)) if p not in cut and strengths[p] >= length]
    return wrong[0] if wrong else None


class Orders(unittest.TestCase):
    def test_by_the_words_of_the_document(self):
        kinds = set()
        for lengths in ((3,), (1, 1), (1, 2), (1, 1, 1), (1, 2, 1), (2, 1, 1, 2)):
            many = len(lengths)
            orders = [[]] + [[one] for one in handfuls(many)] + [[one, other] for one in handfuls(many)
                                                                 for other in handfuls(many)][::11]
            orders += [([0], [many]), [[0], (), [0, -1], [many]], ([many, 0],)]
            for strengths in product((0, 1, 2, sum(lengths)), repeat=many):
                ring = Beads(strengths, lengths)
                for cut in cuttings(ring):
                    for order in orders:
                        told = order_fault(ring, order, cut)
                        self.assertEqual(told, slow_order_fault(ring, order, cut))
                        kinds.add(told and told[0])
                        if told is None:
                            self.assertEqual(settled_cut(run_order(ring, order)[0]), cut)
        self.assertEqual(kinds, {None, "place", "head", "bead"})

    def test_settled_exactly_if_there_is_no_fault(self):
        for ring in standings(4, kinds=(True,)):
            for cut in cuttings(ring):
                for order in ([], [[0]], ([0], range(len(ring)))):
                    self.assertIs(order_fault(ring, order, list(cut)) is None,
                                  settled_cut(run_order(ring, order)[0]) == cut)

    def test_ordinary(self):
        ring = Beads([3, 3, 3, 3])
        self.assertIsNone(order_fault(ring, [(1,), [3], (2, 0)], (0, 2)))
        self.assertEqual(order_fault(ring, [], [0, 2]), ("head", 0))
        self.assertEqual(order_fault(ring, [(0,), (4,), (-1,)], [0, 2]), ("place", 1))
        self.assertEqual(order_fault(Beads([2, 2, 2, 0]), [], [0, 2]), ("bead", 1))
        self.assertEqual(order_fault(Beads([2, 2, 1, 3]), [], [0, 2]), ("head", 2))

    def test_a_plan_settles_the_ring(self):
        found = 0
        for ring in list(small_starts(True))[::3]:
            for hand in (1, 2, 4):
                for cut in ends_of(ring, hand=hand):
                    order = plan_cut(ring, cut, hand=hand)
                    self.assertIsNone(order_fault(ring, order, cut))
                    settled = run_order(ring, order)[0]
                    self.assertIsNone(order_fault(settled, finish(settled)[0], cut))
                    self.assertIsNone(log_fault(ring, run_order(ring, order)[1]))
                    found += 1
        self.assertGreater(found, 100)

    def test_errors_whatever_the_order_contains(self):
        for order in ([], [[0]], [[9]], ([-1],)):
            for cut in ((0,), [], (7, 7), [0, 2]):
                row = Beads([1, 2, 3, 0], ring=False)
                self.assertEqual(raised(self, WrongKind, order_fault, row, order, cut), {"ring": False})
            for cut in ((), [2, 0], (0, 0), (0, 1), [4], (-1,), (0, 1, 2), [0, 2, 4]):
                told = raised(self, BadCut, order_fault, Beads([1, 2, 3, 0]), order, cut)
                self.assertEqual(told, {"cut": tuple(cut)})
                self.assertIsInstance(told["cut"], tuple)


class Logs(unittest.TestCase):
    def test_sound_logs(self):
        for beads in standings(3, (0, 1, 3)):
            for order in ([], [[]], [[0]], [[0], range(len(beads)), [0], []], [range(len(beads))] * 3):
                self.assertIsNone(log_fault(beads, run_order(beads, order)[1]))

    def test_each_entry_that_is_wrong(self):
        for beads in standings(3, (0, 1, 3)):
            many = len(beads)
            log = run_order(beads, [[0], list(range(many)), [], [many - 1]])[1]
            for index, (handful, changes) in enumerate(log):
                spoiled = [(handful + (many,), changes), ((-1,) + handful, changes), (handful, changes + [(0, 5, 6)]),
                           ((0,) + handful, changes) if handful[:1] == (0,) else ((many,), changes)]
                if len(handful) > 1:
                    spoiled.append((handful[::-1], changes))
                for k, (place, before, after) in enumerate(changes):
                    spoiled.append((handful, changes[:k] + changes[k + 1:]))
                    for wrong in ((place, before, after + 1), (place, before + 1, after), (place + 1, before, after)):
                        spoiled.append((handful, changes[:k] + [wrong] + changes[k + 1:]))
                    spoiled.append((handful, changes[:k] + [changes[k]] + changes[k:]))
                if len(changes) > 1:
                    spoiled.append((handful, changes[::-1]))
                for place in range(many):
                    if place not in handful:
                        spoiled.append((handful, changes + [(place, beads.strengths[place], beads.strengths[place])]))
                for wrong in spoiled:
                    self.assertEqual(log_fault(beads, log[:index] + [wrong] + log[index + 1:]), index)
                    # The first wrong entry is told.
                    self.assertEqual(log_fault(beads, log[:index] + [wrong, ((99,), [])] + log[index + 1:]), index)

    def test_a_wrong_missing_and_superfluous_change(self):
        ring = Beads([0, 0, 0])
        self.assertIsNone(log_fault(ring, [((0, 2), [(0, 0, 1), (2, 0, 1)])]))
        for entry in (((0, 2), [(0, 0, 1)]), ((0, 2), []), ((0, 2), [(0, 0, 1), (1, 0, 1), (2, 0, 1)]),
                      ((0, 2), [(2, 0, 1), (0, 0, 1)]), ((0, 2), [(0, 0, 2), (2, 0, 1)]), ((2, 0), [(0, 0, 1), (2, 0, 1)]),
                      ((0, 0, 2), [(0, 0, 1), (2, 0, 1)]), ((0, 3), [(0, 0, 1)]), ((-1, 0), [(0, 0, 1)]),
                      ((), [(0, 0, 1)])):
            self.assertEqual(log_fault(ring, [((), []), entry, ((5,), [])]), 1)

    def test_the_history_of_a_journal(self):
        journal = Journal(Beads(mixed(40, 9)))
        journal.perform([[place, (place * 7) % 40] for place in mixed(300, 39)])
        log = journal.history()
        self.assertIsNone(log_fault(journal.start, log))
        self.assertEqual(log_fault(journal.start, log[:9] + log[8:]), 9)


class Papers(unittest.TestCase):
    def test_by_the_words_of_the_document(self):
        tallies = [[], [(0, -1)], [(0, 1)], [(1, 2)], [(0, 1), (3, -2)], [(3, 5)]]
        for many in range(5):
            for paper in product(tallies, repeat=many):
                wrong = [k for k in range(1, many) if compare_tallies(paper[k], paper[k - 1]) != 1]
                self.assertEqual(paper_fault(list(paper)), wrong[0] if wrong else None)

    def test_of_a_journal(self):
        journal = Journal(Beads([0, 3, 0, 2, 0]))
        journal.perform([[0], [1, 2], [4, 3], [1], [0, 1, 2, 3, 4], [0]])
        paper = journal.tallies()
        self.assertGreater(len(paper), 3)
        self.assertIsNone(paper_fault(paper))
        for k in range(1, len(paper)):
            self.assertEqual(paper_fault(paper[:k] + [paper[k - 1]] + paper[k:]), k)
            self.assertEqual(paper_fault(paper[:k - 1] + [paper[k], paper[k - 1]] + paper[k + 1:]), k)

    def test_empty_and_single(self):
        self.assertIsNone(paper_fault([]))
        self.assertIsNone(paper_fault([[(4, 1)]]))
        self.assertEqual(paper_fault([[], []]), 1)


class Lineages(unittest.TestCase):
    def some(self):
        yield from standings(4, (0, 1, 2))
        for number in range(2, 8):
            yield sharp_start(number)
            yield short_start(number)

    def test_by_the_words_of_the_document(self):
        longest = 0
        for beads in self.some():
            for place in range(len(beads)):
                if last_change(beads, place) < 2:
                    for lineage in ([], [(2, 0)]):
                        self.assertEqual(raised(self, NoLineage, lineage_fault, beads, place, lineage), {"place": place})
                    continue
                lineage = lineage_of(beads, place)
                longest = max(longest, len(lineage))
                self.assertIsNone(lineage_fault(beads, place, lineage))
                for k, (number, stopper) in enumerate(lineage):
                    self.assertEqual(lineage_fault(beads, place, lineage[:k]), k)
                    for wrong in ((number + 1, stopper), (number, stopper + 1), (stopper, number + 9)):
                        self.assertEqual(lineage_fault(beads, place, lineage[:k] + [wrong] + lineage[k + 1:]), k)
                        self.assertEqual(lineage_fault(beads, place, lineage[:k] + [wrong]), k)
                for more in ([(1, 0)], [(1, 0), (0, 0)]):
                    self.assertEqual(lineage_fault(beads, place, lineage + more), len(lineage))
        self.assertGreaterEqual(longest, 6)

    def test_errors(self):
        beads = Beads([2, 1, 2, 2, 1])
        for place in (-1, 5):
            for lineage in ([], [(3, 3), (2, 2)]):
                self.assertEqual(raised(self, BadPlace, lineage_fault, beads, place, lineage), {"place": place})
        self.assertIsNone(lineage_fault(beads, 0, [(3, 3), (2, 2)]))
        self.assertEqual(raised(self, NoLineage, lineage_fault, beads, 1, [(3, 3)]), {"place": 1})


class Wipes(unittest.TestCase):
    def test_by_the_words_of_the_document(self):
        for marks in all_marks(range(1, 7)):
            size = marks.size
            plans = [plan for many in range(3) for plan in product(range(-1, size + 1), repeat=many)]
            for plan in plans:
                now, wrong = marks.places, None
                for index, place in enumerate(plan):
                    wipes = slow_wipes(size, now)
                    if place not in wipes:
                        wrong = index
                        break
                    now = wipes[place]
                for end in (now, list(now), now[:-1], now + (size,), marks.places, ()):
                    right = wrong is None and tuple(end) == now
                    expected = None if right else len(plan) if wrong is None else wrong
                    self.assertEqual(wipe_fault(marks, list(plan), end), expected)

    def test_plans(self):
        for marks in all_marks([6, 8]):
            for end in mark_ends(marks):
                plan = wipe_plan(marks, end)
                self.assertIsNone(wipe_fault(marks, plan, end))
                self.assertIsNone(wipe_fault(marks, plan, list(end)))
                self.assertEqual(wipe_fault(marks, plan + [end[0]], end), len(plan))
                if plan:
                    self.assertEqual(wipe_fault(marks, plan[:-1], end), len(plan) - 1)
                    self.assertEqual(wipe_fault(marks, [99] + plan, end), 0)

    def test_ordinary(self):
        marks = Marks(6, [0, 2, 3, 5])
        self.assertIsNone(wipe_fault(marks, [0, 3], (0, 3)))
        self.assertIsNone(wipe_fault(marks, [], [0, 2, 3, 5]))
        self.assertEqual([wipe_fault(marks, [0, 3], (0,)), wipe_fault(marks, [0, 2, 9], (0, 3)),
                          wipe_fault(marks, [], (0, 3)), wipe_fault(marks, [0, 3, 0], (0, 3))], [2, 1, 0, 2])
        # Marks may be left that could still wipe.
        self.assertIsNone(wipe_fault(marks, [0], (0, 3, 5)))


class Passed(unittest.TestCase):
    def test_what_is_passed_stays(self):
        ring = Beads([3, 3, 3, 3])
        calls = [(order_fault, ring, [[3, 1, 1], (0,)], [0, 2]), (log_fault, ring, run_order(ring, [[1, 0], [2]])[1]),
                 (paper_fault, [[(0, 1)], [(0, 2), (1, 1)]]), (lineage_fault, Beads([2, 1, 2, 2, 1]), 0, [(3, 3), (2, 2)]),
                 (wipe_fault, Marks(6, [0, 2, 3, 5]), [0, 3], [0, 3])]
        for call, *args in calls:
            before = copy.deepcopy(args)
            call(*args)
            self.assertEqual(args, before)


class Cuts(unittest.TestCase):
    def test_all_places_as_a_cut(self):
        # A cut is a cutting exactly if no BadCut is raised.
        ring = Beads([0, 1, 2, 0], [1, 2, 1, 2])
        for many in range(5):
            for cut in combinations(range(4), many):
                if cut in cuttings(ring):
                    self.assertEqual(order_fault(ring, [], cut)[0], "head")
                    self.assertEqual(arc_length(ring, cut) * many, 6)
                else:
                    self.assertEqual(raised(self, BadCut, order_fault, ring, [], cut), {"cut": cut})
