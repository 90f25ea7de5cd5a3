import unittest
from itertools import product

from retinue.beads import Beads
from retinue.errors import BadLook, BadPlace
from retinue.tally import compare_tallies, tally_of
from retinue.waking import changes_of, wake
from retinue.web import Web, settle_web, told_to, wake_web, web_changes, web_of, web_tally
from tests.support import handfuls, raised, standings

STILL = ("sum", 0, ())
NESTED = ["all", [["most", (("sum", 1, [(1, 2), (2, 4)]), ["top", 3, ((0, 9), (2, 7))])],
                  ("least", [("run", 2, ((2, 1), (1, 5))), ["sum", 6, []]])]]
FROZEN = ("all", (("most", (("sum", 1, ((1, 2), (2, 4))), ("top", 3, ((0, 9), (2, 7))))),
                  ("least", (("run", 2, ((2, 1), (1, 5))), ("sum", 6, ())))))


def told(look, strengths):
    """What being 0 is told by this look if all other beings tell 0."""
    return told_to(Web([look] + [STILL] * (len(strengths) - 1), strengths), 0)


class Making(unittest.TestCase):
    def test_attributes_are_tuples_throughout(self):
        looks, strengths = [NESTED, STILL, ["top", 0, []]], [3, 1, 0]
        web = Web(looks, strengths)
        self.assertEqual(web.looks, (FROZEN, STILL, ("top", 0, ())))
        self.assertEqual(web.strengths, (3, 1, 0))
        self.assertIsInstance(web.looks, tuple)
        self.assertIsInstance(web.strengths, tuple)
        again = Web(tuple(looks), tuple(strengths))
        self.assertEqual((again.looks, again.strengths), (web.looks, web.strengths))

    def test_what_is_passed_is_copied_and_stays(self):
        parts = [(0, 1)]
        inner = ["sum", 1, parts]
        looks, strengths = [["all", [inner]]], [4]
        web = Web(looks, strengths)
        self.assertEqual((looks, strengths), ([["all", [["sum", 1, [(0, 1)]]]]], [4]))
        parts.append((0, 7))
        inner[1] = 9
        looks.append(STILL)
        strengths[0] = 0
        self.assertEqual(web.looks, (("all", (("sum", 1, ((0, 1),)),)),))
        self.assertEqual(web.strengths, (4,))

    def test_no_being_or_another_number_of_strengths(self):
        bad = ("other",)
        for looks, strengths in (([], []), ((), ()), ([], [1]), ([STILL], []), ([STILL], [1, 2]),
                                 ([STILL, STILL], [1]), ([bad], [1, 2])):
            self.assertEqual(raised(self, BadLook, Web, looks, strengths), {"being": -1})

    def test_the_least_being_with_a_wrong_look(self):
        for bad in (("other", 3, []), ["Sum", 0, []], ("",), ["all", ["maybe"]], ("sum ", 0, []),
                    ("other", None, {}), ("sum", -1, []), ("run", 0, [(0, -1)]), ("top", 0, [(3, 1)]),
                    ("sum", 0, [(0, 1), (-1, 1)]), ("run", 0, ((9, 1),)), ("all", []), ("most", ()),
                    ("least", []), ("all", [STILL, ("most", [])]), ("least", (STILL, ["none", []])),
                    ("most", [("top", -2, [])]), ("all", [("least", [("sum", 1, [(0, 1), (3, 1)])])])):
            self.assertEqual(raised(self, BadLook, Web, [bad, STILL, STILL], [0, 0, 0]), {"being": 0})
            self.assertEqual(raised(self, BadLook, Web, [STILL, bad, bad], [0, 0, 0]), {"being": 1})
            self.assertEqual(raised(self, BadLook, Web, (STILL, STILL, bad), (0, 0, 0)), {"being": 2})
            self.assertEqual(raised(self, BadLook, Web, [bad], [0, 0]), {"being": -1})

    def test_bases_and_weights_may_be_0(self):
        looks = (("sum", 0, ((0, 0), (1, 0))), ("all", (("run", 0, ((1, 0),)), ("top", 0, ()))))
        self.assertEqual(Web(looks, (1, 1)).looks, looks)

    def test_strengths_are_not_checked(self):
        self.assertEqual(Web([STILL], [-5]).strengths, (-5,))

    def test_a_look_may_be_without_parts_and_beyond_the_limits(self):
        look = ("sum", 10 ** 10, [(k % 20, 10 ** 10) for k in range(20)])
        for _ in range(8):
            look = ["all", [look] * 2]
        web = Web([look] * 20, [10 ** 13] + [0] * 19)
        self.assertEqual(told_to(web, 0), 256 * 20 * 10 ** 10)
        self.assertEqual(told_to(web, 1), 256 * 10 ** 10)


class Looks(unittest.TestCase):
    def test_sum(self):
        parts = [(1, 2), (2, 4), (1, 8), (0, 16)]
        for strengths, number in (((5, 4, 4), 15), ((5, 5, 4), 5), ((5, 4, 6), 11), ((0, 0, 0), 1)):
            self.assertEqual(told(("sum", 1, parts), strengths), number)
        self.assertEqual(told(("sum", 7, ()), (1,)), 7)

    def test_run(self):
        parts = ((1, 2), (2, 4), (1, 8))
        for strengths, number in (((5, 4, 4), 15), ((5, 5, 4), 1), ((5, 4, 5), 3), ((0, 0, 0), 1)):
            self.assertEqual(told(("run", 1, parts), strengths), number)
        self.assertEqual(told(("run", 1, [(1, 2), (0, 4), (1, 8)]), (5, 0)), 3)

    def test_top(self):
        parts = [(1, 2), (2, 9), (1, 8)]
        for strengths, number in (((5, 4, 4), 9), ((5, 5, 4), 9), ((5, 4, 5), 8), ((0, 0, 0), 3)):
            self.assertEqual(told(("top", 3, parts), strengths), number)
        self.assertEqual(told(("top", 9, parts[:1]), (1, 0, 0)), 9)
        self.assertEqual(told(("top", 0, []), (1, 0, 0)), 0)

    def test_looks_of_looks(self):
        inner = [("sum", 3, [(1, 2)]), ["top", 4, []], ("run", 1, [(0, 5)])]
        for word, strong, weak in (("all", 10, 8), ("most", 5, 4), ("least", 1, 1)):
            self.assertEqual(told((word, inner), (1, 0)), strong)
            self.assertEqual(told([word, tuple(inner)], (0, 0)), weak)
            self.assertEqual(told((word, inner[:1]), (1, 0)), 5)
        self.assertEqual(told(NESTED, (2, 1, 1)), 7 + 6)
        self.assertEqual(told(NESTED, (2, 1, 2)), 3 + 2)

    def test_no_such_being(self):
        for being in (-1, 1):
            self.assertEqual(raised(self, BadPlace, told_to, Web([STILL], [0]), being), {"place": being})


def webs():
    """Yield small webs with looks of all forms."""
    looks = (("sum", 1, ((0, 2), (1, 1))), ("run", 0, ((2, 1), (0, 3), (1, 1))), ("top", 1, ((2, 4), (1, 2))),
             ("most", (("sum", 0, ((1, 3),)), ("run", 2, ((2, 1),)))),
             ("least", (("all", (("sum", 1, ((0, 1),)), ("top", 0, ((2, 2),)))), ("sum", 3, ()))))
    for chosen in product(looks, repeat=3):
        for strengths in ((0, 0, 0), (1, 2, 3), (3, 1, 1), (2, 0, 4)):
            yield Web(chosen, strengths)


class Waking(unittest.TestCase):
    def test_changes_wake_and_tally(self):
        for web in webs():
            numbers = [told_to(web, being) for being in range(3)]
            tally = {}
            for strength, number in zip(web.strengths, numbers):
                tally[strength] = tally.get(strength, 0) + (-1 if number > strength else 1)
            self.assertEqual(web_tally(web), sorted((v, n) for v, n in tally.items() if n != 0))
            for handful in handfuls(3):
                changes = [(b, web.strengths[b], numbers[b]) for b in handful if numbers[b] != web.strengths[b]]
                self.assertEqual(web_changes(web, handful), changes)
                after = wake_web(web, handful)
                self.assertEqual(after.looks, web.looks)
                expected = tuple(numbers[b] if b in handful else s for b, s in enumerate(web.strengths))
                self.assertEqual(after.strengths, expected)

    def test_the_tally_rises(self):
        for web in webs():
            for handful in handfuls(3):
                changes = web_changes(web, handful)
                before, after = web_tally(web), web_tally(wake_web(web, handful))
                self.assertEqual(compare_tallies(before, after), -1 if changes else 0)
                if changes:
                    touched = [(min(one, other), max(one, other)) for _, one, other in changes]
                    value = min(touched)[0]
                    number = sum(value in pair for pair in touched)
                    self.assertEqual([pair for pair in before if pair[0] < value],
                                     [pair for pair in after if pair[0] < value])
                    self.assertEqual(dict(after).get(value, 0) - dict(before).get(value, 0), number)

    def test_handfuls(self):
        web = Web([("sum", 2, []), ("sum", 5, [(0, 1)])], [2, 4])
        for handful in ([1, 0, 1], (0, 1), (1, 1)):
            self.assertEqual(web_changes(web, handful), [(1, 4, 6)])
        self.assertEqual(web_changes(web, []), [])
        self.assertEqual(wake_web(web, ()).strengths, (2, 4))

    def test_the_first_item_that_is_not_a_place(self):
        web = Web([STILL, STILL], [0, 0])
        for call in (web_changes, wake_web):
            for handful, place in (([0, 2, -1], 2), ((-1, 2), -1)):
                self.assertEqual(raised(self, BadPlace, call, web, handful), {"place": place})


class Settling(unittest.TestCase):
    def test_rounds_until_nothing_changes(self):
        for web in webs():
            rounds, now = 0, web
            while web_changes(now, (0, 1, 2)):
                rounds, now = rounds + 1, wake_web(now, (0, 1, 2))
                for limit in (rounds - 1, rounds):
                    self.assertEqual(settle_web(web, limit=limit)[1], limit)
                self.assertEqual(settle_web(web, limit=rounds)[0].strengths, now.strengths)
            for settled in (settle_web(web), settle_web(web, limit=rounds), settle_web(web, limit=200)):
                self.assertIsInstance(settled, tuple)
                self.assertEqual((settled[0].strengths, settled[0].looks, settled[1]),
                                 (now.strengths, web.looks, rounds))

    def test_limit_0_and_nothing_to_change(self):
        web = Web([("sum", 4, ())], [3])
        after, rounds = settle_web(web, limit=0)
        self.assertEqual((after.strengths, rounds), ((3,), 0))
        after, rounds = settle_web(Web([("sum", 4, ())], [4]))
        self.assertEqual((after.strengths, rounds), ((4,), 0))

    def test_the_limit_is_100_unless_told(self):
        # Each being changes in the round after the one before it: the even ones rise, the odd ones fall.
        looks = [("sum", 30, [])]
        for being in range(1, 110):
            looks.append(("sum", 5, [(being - 1, 15)]) if being % 2 else ("sum", 10, [(being - 1, 20)]))
        web = Web(looks, [10, 20] * 55)
        after, rounds = settle_web(web)
        self.assertEqual((rounds, after.strengths), (100, (30, 5) * 50 + (10, 20) * 5))
        after, rounds = settle_web(web, limit=200)
        self.assertEqual((rounds, after.strengths), (110, (30, 5) * 55))


class OfStandings(unittest.TestCase):
    def test_looks(self):
        web = web_of(Beads([3, 1, 2], [4, 5, 6]))
        self.assertEqual(web.strengths, (3, 1, 2))
        self.assertEqual(web.looks, (("run", 4, ((1, 5), (2, 6))), ("run", 5, ((2, 6), (0, 4))),
                                     ("run", 6, ((0, 4), (1, 5)))))
        web = web_of(Beads([3, 1, 2], [4, 5, 6], ring=False))
        self.assertEqual(web.looks, (("run", 4, ((1, 5), (2, 6))), ("run", 5, ((2, 6),)), ("run", 6, ())))
        self.assertEqual(web_of(Beads([3])).looks, (("run", 1, ()),))

    def test_waking_the_web_is_waking_the_standing(self):
        for beads in standings(3):
            web = web_of(beads)
            self.assertEqual(web_tally(web), tally_of(beads))
            for handful in handfuls(len(beads)):
                self.assertEqual(web_changes(web, handful), changes_of(beads, handful))
                after, awake = wake_web(web, handful), web_of(wake(beads, handful))
                self.assertEqual((after.looks, after.strengths), (awake.looks, awake.strengths))

    def test_more_than_12_beads(self):
        beads = Beads(list(range(30, 0, -1)))
        self.assertEqual(web_changes(web_of(beads), range(30)), changes_of(beads, list(range(30))))
