import unittest

from retinue.beads import Beads
from retinue.errors import BadPlace
from retinue.forest import outcome_fault
from retinue.rounds import final_heads, last_change, round_heads, rounds_of
from retinue.waking import at_rest
from tests.support import mixed, raised, slow_span, slow_wake, standings


def slow_rounds(beads):
    """The strengths of the start and after each round, up to those that the next round leaves."""
    rows = [tuple(beads)]
    while True:
        now = Beads(rows[-1], beads.lengths, ring=beads.ring)
        after = slow_wake(now, range(len(now)))
        if after == rows[-1]:
            return rows
        rows.append(after)


def slow_heads(beads, strengths):
    """The beads in no other bead's span."""
    now = Beads(strengths, beads.lengths, ring=beads.ring)
    spans = [slow_span(now, place) for place in range(len(now))]
    return [p for p in range(len(now)) if not any(p in span[1:] for span in spans)]


def standings_of_rounds():
    yield from standings(strengths=(0, 1, 2, 3))
    for many in (5, 8, 13, 30):
        for step in range(1, 12):
            for ring in (True, False):
                yield Beads(mixed(many, 4, step), [1 + k for k in mixed(many, step % 4, 5)], ring=ring)


class Rounds(unittest.TestCase):
    def test_by_the_words_of_the_document(self):
        for beads in standings_of_rounds():
            rows = rounds_of(beads)
            self.assertEqual(rows, slow_rounds(beads))
            self.assertIsInstance(rows, list)
            self.assertTrue(all(isinstance(row, tuple) for row in rows))
            rests = [at_rest(Beads(row, beads.lengths, ring=beads.ring)) for row in rows]
            self.assertEqual(rests, [False] * (len(rows) - 1) + [True])

    def test_later_rounds_only_raise_beads_that_changed_before(self):
        for beads in standings_of_rounds():
            rows = rounds_of(beads)
            for number in range(2, len(rows)):
                for place in range(len(beads)):
                    self.assertGreaterEqual(rows[number][place], rows[number - 1][place])
                    if number > 2 and rows[number][place] != rows[number - 1][place]:
                        self.assertNotEqual(rows[number - 1][place], rows[number - 2][place])

    def test_last_change(self):
        for beads in standings_of_rounds():
            rows = slow_rounds(beads)
            for place in range(len(beads)):
                last = 0
                for number in range(1, len(rows)):
                    if rows[number][place] != rows[number - 1][place]:
                        last = number
                self.assertEqual(last_change(beads, place), last)

    def test_ordinary(self):
        self.assertEqual(rounds_of(Beads([2, 1, 2])), [(2, 1, 2), (2, 1, 1), (3, 1, 1)])
        self.assertEqual([last_change(Beads([2, 1, 2]), place) for place in range(3)], [2, 0, 1])
        self.assertEqual(rounds_of(Beads([2, 1, 2, 1])), [(2, 1, 2, 1)])
        self.assertEqual([last_change(Beads([2, 1, 2, 1]), place) for place in range(4)], [0, 0, 0, 0])
        for ring in (True, False):
            self.assertEqual(rounds_of(Beads([7], [7], ring=ring)), [(7,)])
            self.assertEqual(rounds_of(Beads([9], [7], ring=ring)), [(9,), (7,)])
            self.assertEqual(last_change(Beads([7], [7], ring=ring), 0), 0)
            self.assertEqual(last_change(Beads([9], [7], ring=ring), 0), 1)

    def test_no_such_place(self):
        for ring in (True, False):
            for place in (-1, 3, 120):
                self.assertEqual(raised(self, BadPlace, last_change, Beads([2, 1, 2], ring=ring), place),
                                 {"place": place})

    def test_many_beads(self):
        for many in (120, 150):
            for ring in (True, False):
                beads = Beads([0] * many, [2] + [2 ** (k // 4) for k in range(many - 1)], ring=ring)
                self.assertEqual(rounds_of(beads), slow_rounds(beads))
                self.assertEqual(last_change(beads, 0), len(rounds_of(beads)) - 1)


class Heads(unittest.TestCase):
    def test_by_the_words_of_the_document(self):
        for beads in standings_of_rounds():
            rows = slow_rounds(beads)
            # In a standing at rest, round 1 changes nothing and is still listed.
            after = rows[1:] if len(rows) > 1 else rows
            expected = [slow_heads(beads, row) for row in after]
            self.assertEqual(round_heads(beads), expected)
            self.assertEqual(final_heads(beads), expected[-1])
            self.assertEqual([outcome_fault(Beads(row, beads.lengths, ring=beads.ring)) for row in after],
                             [None] * len(after))

    def test_which_heads_are_left_in_the_next_round(self):
        for beads in standings_of_rounds():
            heads, rows = round_heads(beads), rounds_of(beads)
            for number in range(1, len(heads)):
                old, strengths = heads[number - 1], rows[number]
                if beads.ring:
                    most = max(strengths[head] for head in old)
                    left = [head for head in old if strengths[head] == most]
                else:
                    left = [head for head in old
                            if all(strengths[head] >= strengths[other] for other in old if other < head)]
                self.assertEqual(heads[number], left)

    def test_ordinary(self):
        self.assertEqual(round_heads(Beads([2, 1, 2])), [[0, 2], [0]])
        self.assertEqual(final_heads(Beads([2, 1, 2])), [0])
        self.assertEqual(round_heads(Beads([2, 1, 2, 1])), [[0, 2]])
        self.assertEqual(final_heads(Beads([2, 1, 2, 1])), [0, 2])
        for strength in (0, 4, 5):
            for ring in (True, False):
                self.assertEqual(round_heads(Beads([strength], [4], ring=ring)), [[0]])
                self.assertEqual(final_heads(Beads([strength], [4], ring=ring)), [0])
        self.assertEqual(round_heads(Beads([3, 0, 0, 1], ring=False)), [[0]])

    def test_many_beads(self):
        for many in (120, 150):
            for ring in (True, False):
                beads = Beads(mixed(many, 7), [1 + k for k in mixed(many, 3)], ring=ring)
                rows = slow_rounds(beads)
                self.assertEqual(round_heads(beads), [slow_heads(beads, row) for row in rows[1:]])
