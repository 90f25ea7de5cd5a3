import unittest
from itertools import product

from retinue.beads import Beads
from retinue.errors import BadPlace, NotAtRest, NothingToRedo, NothingToUndo
from retinue.journal import Journal
from retinue.tally import compare_tallies, tally_of
from retinue.waking import at_rest, changes_of, restless, run_order, unwind
from tests.support import mixed, raised, slow_wake

RING = Beads([2, 1, 2])
HANDFULS = ((), (0,), [2], (2, 0, 2), [0, 1, 2])
ORDERS = ([], [()], [[2], [0]], ((0, 1), (), (2, 2), (0,)))


def state(journal):
    """All that can be read of a journal, with lists and tuples kept apart."""
    return (journal.start, journal.now, list(journal.entries), list(journal.undone), journal.busy, len(journal),
            list(journal), journal.history(), journal.tallies())


class SlowJournal:
    """A journal that keeps, beside each entry, the strengths before and after it."""

    def __init__(self, start):
        self.start = start
        self.done, self.undone = [], []

    def now(self):
        return Beads(self.done[-1][2] if self.done else self.start.strengths, self.start.lengths, ring=self.start.ring)

    def wake(self, handful):
        now = self.now()
        after = slow_wake(now, handful)
        changes = tuple((p, now.strengths[p], after[p]) for p in range(len(now)) if after[p] != now.strengths[p])
        if changes:
            self.done.append((tuple(sorted(set(handful))), changes, after))
            self.undone = []
        return list(changes)

    def move(self, source, target):
        if not source:
            return None
        target.append(source.pop())
        return list(target[-1][1])

    def state(self):
        entries = [(handful, changes) for handful, changes, _ in self.done]
        standings = [self.start] + [Beads(after, self.start.lengths, ring=self.start.ring) for _, _, after in self.done]
        return (self.start, self.now(), entries, [(handful, changes) for handful, changes, _ in self.undone], False,
                len(entries), entries, [(handful, list(changes)) for handful, changes in entries],
                [tally_of(standing) for standing in standings])


def step(test, journal, slow, action):
    """Do the same with both and check that they answer alike."""
    if action == "undo":
        told = slow.move(slow.done, slow.undone)
        if told is None:
            test.assertEqual(raised(test, NothingToUndo, journal.undo), {})
        else:
            test.assertEqual(journal.undo(), told)
    elif action == "redo":
        told = slow.move(slow.undone, slow.done)
        if told is None:
            test.assertEqual(raised(test, NothingToRedo, journal.redo), {})
        else:
            test.assertEqual(journal.redo(), told)
    elif action[0] == "wake":
        test.assertEqual(journal.wake(action[1]), slow.wake(action[1]))
    else:
        told = sum(1 for handful in action[1] if slow.wake(handful))
        test.assertEqual(journal.perform(action[1]), told)
    test.assertEqual(state(journal), slow.state())


class Steps(unittest.TestCase):
    def test_all_short_ways(self):
        actions = ["undo", "redo"] + [("wake", handful) for handful in HANDFULS] + [("perform", o) for o in ORDERS[1:]]
        for start in (RING, Beads([0, 2, 1], [1, 2, 1], ring=False)):
            for way in product(actions, repeat=4):
                journal, slow = Journal(start), SlowJournal(start)
                for action in way:
                    step(self, journal, slow, action)

    def test_a_long_way(self):
        start = Beads(mixed(30, 6), [1 + k for k in mixed(30, 2)])
        journal, slow = Journal(start), SlowJournal(start)
        for number in mixed(400, 99):
            if number % 10 < 3:
                action = "undo"
            elif number % 10 < 5:
                action = "redo"
            else:
                action = ("wake", [number % 30, (number * 7) % 30])
            step(self, journal, slow, action)
        self.assertGreater(len(journal), 5)

    def test_a_new_journal(self):
        journal = Journal(RING)
        self.assertEqual(vars(journal), {"start": RING, "now": RING, "entries": [], "undone": [], "busy": False})
        self.assertIs(journal.busy, False)
        self.assertEqual([len(journal), list(journal), journal.history()], [0, [], []])
        self.assertEqual(journal.tallies(), [tally_of(RING)])

    def test_ordinary(self):
        journal = Journal(RING)
        self.assertEqual(journal.wake([2, 1, 2]), [(2, 2, 1)])
        self.assertEqual(journal.wake((0,)), [(0, 2, 3)])
        self.assertEqual(journal.now, Beads([3, 1, 1]))
        self.assertEqual(journal.entries, [((1, 2), ((2, 2, 1),)), ((0,), ((0, 2, 3),))])
        self.assertEqual(list(journal), journal.entries)
        self.assertEqual(journal.history(), [((1, 2), [(2, 2, 1)]), ((0,), [(0, 2, 3)])])
        self.assertEqual(journal.undo(), [(0, 2, 3)])
        self.assertEqual([journal.now, journal.undone], [Beads([2, 1, 1]), [((0,), ((0, 2, 3),))]])
        self.assertEqual(journal.undo(), [(2, 2, 1)])
        self.assertEqual(journal.undone, [((0,), ((0, 2, 3),)), ((1, 2), ((2, 2, 1),))])
        self.assertEqual(journal.redo(), [(2, 2, 1)])
        self.assertEqual([journal.now, len(journal), len(journal.undone)], [Beads([2, 1, 1]), 1, 1])

    def test_a_waking_that_changes_nothing(self):
        journal = Journal(RING)
        journal.wake([2])
        journal.undo()
        before = state(journal)
        for handful in ([], (), [1], (1, 1)):
            self.assertEqual(journal.wake(handful), [])
            self.assertEqual(journal.perform([handful, ()]), 0)
            self.assertEqual(state(journal), before)
        self.assertEqual(journal.redo(), [(2, 2, 1)])

    def test_undo_after_wake_after_undo(self):
        journal = Journal(RING)
        journal.wake([2])
        journal.wake([0])
        journal.undo()
        self.assertEqual(journal.wake([0, 1]), [(0, 2, 3)])
        self.assertEqual(journal.undone, [])
        self.assertEqual(raised(self, NothingToRedo, journal.redo), {})
        self.assertEqual(journal.undo(), [(0, 2, 3)])
        self.assertEqual(journal.undone, [((0, 1), ((0, 2, 3),))])
        self.assertEqual(journal.undo(), [(2, 2, 1)])
        self.assertEqual(journal.now, RING)

    def test_kinds(self):
        journal = Journal(Beads([0, 0, 0]))
        for told in (journal.wake([1, 0]), journal.undo(), journal.redo(), journal.history(), journal.tallies(),
                     journal.entries, journal.undone, journal.history()[0][1]):
            self.assertIsInstance(told, list)
        for handful, changes in (journal.entries[0], *journal):
            self.assertIsInstance(handful, tuple)
            self.assertIsInstance(changes, tuple)
            self.assertTrue(all(isinstance(change, tuple) for change in changes))
        self.assertIsInstance(journal.entries[0], tuple)
        self.assertIsInstance(journal.history()[0], tuple)
        self.assertIsInstance(journal.history()[0][0], tuple)

    def test_changing_what_was_returned(self):
        journal = Journal(RING)
        for call in (lambda: journal.wake([2]), journal.undo, journal.redo, journal.tallies, journal.history,
                     lambda: journal.history()[0][1]):
            told = call()
            before = state(journal)
            told.append("spoiled")
            told.reverse()
            self.assertEqual(state(journal), before)
        handful = [0]
        journal.wake(handful)
        handful.append(1)
        self.assertEqual(journal.entries[-1][0], (0,))


class Perform(unittest.TestCase):
    def test_each_as_wake_does(self):
        for strengths in product(range(3), repeat=3):
            for ring in (True, False):
                for order in ORDERS:
                    start = Beads(strengths, [1, 2, 1], ring=ring)
                    one, other = Journal(start), Journal(start)
                    told = [other.wake(handful) for handful in order]
                    self.assertEqual(one.perform(order, to_rest=False), len([changes for changes in told if changes]))
                    self.assertEqual(state(one), state(other))

    def test_to_rest(self):
        for strengths in product(range(4), repeat=3):
            for order in ([[2], [0]], [[0, 1, 2]] * 4, [[0]], []):
                start = Beads(strengths)
                end = run_order(start, order)[0]
                plain, journal = Journal(start), Journal(start)
                told = plain.perform(order)
                if at_rest(end):
                    self.assertEqual(journal.perform(order, to_rest=True), told)
                    self.assertEqual(state(journal), state(plain))
                    self.assertEqual(journal.now, end)
                else:
                    self.assertEqual(raised(self, NotAtRest, journal.perform, order, to_rest=True),
                                     {"place": restless(end)[0]})
                    self.assertEqual(state(journal), state(Journal(start)))
                self.assertIs(journal.busy, False)

    def test_an_order_that_adds_no_entry(self):
        journal = Journal(RING)
        journal.wake([2])
        journal.undo()
        for order in ([], (), [[]], [[1], (1,), []]):
            self.assertEqual(journal.perform(order), 0)
            self.assertEqual(journal.perform(order, to_rest=False), 0)
            self.assertEqual(journal.undone, [((2,), ((2, 2, 1),))])
        self.assertEqual(journal.perform([[1], [0, 2]]), 1)
        self.assertEqual(journal.undone, [])

    def test_an_order_for_a_journal_at_rest(self):
        journal = Journal(Beads([3, 1, 1]))
        self.assertEqual(journal.perform([[0, 1], [2]], to_rest=True), 0)
        self.assertEqual(journal.perform([], to_rest=True), 0)

    def test_four_hundred_handfuls_and_more(self):
        journal = Journal(Beads([0] * 120, [1 + k % 3 for k in range(120)]))
        order = [[k % 120, (k * 7) % 120] for k in range(420)]
        added = journal.perform(order)
        self.assertEqual(added, len([entry for entry in run_order(journal.start, order)[1] if entry[1]]))
        self.assertEqual(journal.now, run_order(journal.start, order)[0])


class Errors(unittest.TestCase):
    def journals(self):
        """Yield journals with and without entries, and with and without undone ones."""
        for wakings, undone in ((0, 0), (1, 0), (2, 0), (1, 1), (2, 1), (2, 2)):
            journal = Journal(RING)
            for handful in ([2], [0])[:wakings]:
                journal.wake(handful)
            for _ in range(undone):
                journal.undo()
            yield journal

    def test_everything_stays_after_an_error(self):
        for journal in self.journals():
            before = state(journal)
            for handful, place in (([0, 3], 3), ((-1, 7), -1), ([2, 7, -1], 7)):
                self.assertEqual(raised(self, BadPlace, journal.wake, handful), {"place": place})
                for order in ([handful], [[2], [0], handful], ([0], (), handful, [9])):
                    for more in ({}, {"to_rest": True}, {"to_rest": False}):
                        self.assertEqual(raised(self, BadPlace, journal.perform, order, **more), {"place": place})
                self.assertEqual(state(journal), before)
            if not at_rest(journal.now):
                for order in ([], [[1]] * 3):
                    told = raised(self, NotAtRest, journal.perform, order, to_rest=True)
                    self.assertEqual(told, {"place": restless(journal.now)[0]})
            if not len(journal):
                self.assertEqual(raised(self, NothingToUndo, journal.undo), {})
            if not journal.undone:
                self.assertEqual(raised(self, NothingToRedo, journal.redo), {})
            self.assertEqual(state(journal), before)
            self.assertIs(journal.busy, False)

    def test_a_wrong_place_is_told_before_unrest(self):
        journal = Journal(RING)
        self.assertEqual(raised(self, BadPlace, journal.perform, [[0], [3]], to_rest=True), {"place": 3})
        self.assertEqual(raised(self, NotAtRest, journal.perform, [[0]], to_rest=True), {"place": 2})

    def test_entries_that_were_performed_before_the_error_are_not_kept(self):
        journal = Journal(RING)
        journal.wake([2])
        journal.undo()
        before = state(journal)
        self.assertEqual(raised(self, BadPlace, journal.perform, [[2], [0], [5]]), {"place": 5})
        self.assertEqual(raised(self, NotAtRest, journal.perform, [[2]], to_rest=True), {"place": 0})
        self.assertEqual(state(journal), before)


class Histories(unittest.TestCase):
    def test_now_follows_from_the_entries_and_back(self):
        for journal in Errors().journals():
            self.assertEqual(run_order(journal.start, [handful for handful, _ in journal])[0], journal.now)
            self.assertEqual(run_order(journal.start, [handful for handful, _ in journal])[1], journal.history())
            self.assertEqual(unwind(journal.now, journal.history()), journal.start)

    def test_on_a_long_way(self):
        for ring in (True, False):
            journal = Journal(Beads(mixed(20, 9), ring=ring))
            for number, place in enumerate(mixed(200, 19)):
                if number % 3 == 2:
                    journal.undo()
                journal.wake([place, (place * 3) % 20])
                self.assertEqual(unwind(journal.now, journal.history()), journal.start)
                tallies = journal.tallies()
                self.assertEqual(len(tallies), len(journal) + 1)
                for one, other in zip(tallies, tallies[1:]):
                    self.assertEqual([compare_tallies(one, other), compare_tallies(other, one)], [-1, 1])
            self.assertGreater(len(journal), 10)

    def test_undone_entries_are_redone_as_they_were(self):
        journal = Journal(Beads(mixed(12, 5)))
        journal.perform([[place, place // 2] for place in mixed(60, 11)])
        entries, end = list(journal.entries), journal.now
        while len(journal):
            self.assertEqual(journal.undo(), list(journal.undone[-1][1]))
        self.assertEqual([journal.now, journal.undone], [journal.start, entries[::-1]])
        for handful, changes in entries:
            self.assertEqual(changes_of(journal.now, handful), list(changes))
            self.assertEqual(journal.redo(), list(changes))
        self.assertEqual([journal.now, journal.entries, journal.undone], [end, entries, []])
