import unittest

from retinue.arcs import cuttings
from retinue.beads import Beads
from retinue.desk import Desk
from retinue.ends import ends_of
from retinue.errors import (BadLine, BadPlace, NameTaken, NothingToRedo, NothingToUndo, UnknownName, WrongKind,
                            WrongStart)
from retinue.journal import Journal
from retinue.notation import write_beads, write_order
from retinue.trains import leaders_of
from retinue.waking import at_rest
from tests.support import raised, small_starts, standings


def state(journal):
    return (journal.start, journal.now, list(journal.entries), list(journal.undone), journal.busy)


def shown(desk):
    """All that can be read of a desk."""
    return [(name, state(desk.journal(name))) for name in desk.names()]


def filled():
    """A desk with journals of several kinds."""
    desk = Desk()
    desk.tell_all(["new a ring 2 1 2", "wake a 2 0", "undo a", "new row row 0*2 3 1", "round row", "new empty ring 0",
                   "new c ring 3 3 3 3", "new steep ring 5 0 7", "new twice ring 0 0", "round twice", "wake twice 0"])
    return desk


class Forms(unittest.TestCase):
    def test_each_form(self):
        desk = Desk()
        for line, text in (("new a ring 2 1 2", "ok"), ("new b row 0*2 1", "ok"), ("show a", "ring 2 1 2"),
                           ("show b", "row 0*2 1"), ("wake a 2 - 0", "2"), ("show a", "ring 3 1 1"), ("rest a", "yes"),
                           ("heads a", "0"), ("undo a", "1"), ("show a", "ring 2 1 1"), ("rest a", "no"),
                           ("redo a", "1"), ("show a", "ring 3 1 1"), ("round b", "1"), ("show b", "row 2*2 1"),
                           ("round b", "1"), ("show b", "row 3*2 1"), ("round b", "0"), ("heads b", "0"),
                           ("wake b -", "0"), ("wake b 0,1 0 1", "0"), ("drop a", "ok"), ("new a ring 3 3 3 3", "ok"),
                           ("ends a", "0 1 2 3"), ("heads a", "0,1,2,3"), ("wake a 0,1,2,3", "1"), ("undo a", "4"),
                           ("redo a", "4"), ("show a", "ring 1 1 1 1"), ("ends a", "0,1,2,3")):
            with self.subTest(line):
                self.assertEqual(desk.tell(line), text)

    def test_show_rest_and_heads(self):
        for beads in standings(3):
            desk = Desk()
            self.assertEqual(desk.tell("new x " + write_beads(beads)), "ok")
            self.assertEqual(desk.tell("show x"), write_beads(beads))
            self.assertEqual(desk.tell("rest x"), "yes" if at_rest(beads) else "no")
            self.assertEqual(desk.tell("heads x"), ",".join(str(place) for place in leaders_of(beads)))

    def test_ends(self):
        for beads in list(small_starts(True))[::17]:
            desk = Desk()
            desk.tell("new x " + write_beads(beads))
            ends = [",".join(str(place) for place in cut) for cut in ends_of(beads)]
            self.assertEqual(desk.tell("ends x"), " ".join(ends))
        desk.tell("new y ring 0 0 0 0")
        self.assertEqual(desk.tell("ends y"), " ".join(",".join(map(str, cut)) for cut in cuttings(Beads([0] * 4))))

    def test_as_a_journal_does(self):
        for beads in standings(3, (0, 2, 3)):
            desk, journal = Desk(), Journal(beads)
            desk.tell("new x " + write_beads(beads))
            for order in ([(0,)], [(), (0, len(beads) - 1), (0,)], [()]):
                words = write_order(order)
                self.assertEqual(desk.tell("wake x " + words), str(journal.perform(order)))
                self.assertEqual(desk.tell("round x"), str(len(journal.wake(list(range(len(beads)))))))
                self.assertEqual(state(desk.journal("x")), state(journal))
                if len(journal):
                    self.assertEqual(desk.tell("undo x"), str(len(journal.undo())))
                    self.assertEqual(state(desk.journal("x")), state(journal))
                    self.assertEqual(desk.tell("redo x"), str(len(journal.redo())))
                    self.assertEqual(desk.tell("undo x"), str(len(journal.undo())))
                self.assertEqual(state(desk.journal("x")), state(journal))

    def test_names(self):
        desk = Desk()
        self.assertEqual(desk.names(), [])
        for name in ("b", "new", "abcdefghijkl", "ring", "zz", "a"):
            self.assertEqual(desk.tell("new " + name + " row 1"), "ok")
            self.assertEqual(desk.tell("show " + name), "row 1")
        self.assertEqual(desk.names(), ["a", "abcdefghijkl", "b", "new", "ring", "zz"])
        desk.names().append("x")
        self.assertEqual(desk.tell("drop b"), "ok")
        self.assertEqual(desk.names(), ["a", "abcdefghijkl", "new", "ring", "zz"])
        # A name that was dropped is free again, and its journal begins anew.
        self.assertEqual(desk.tell("new b ring 0"), "ok")
        self.assertEqual(desk.tell("show b"), "ring 0")

    def test_desks_do_not_touch_each_other(self):
        one, other = Desk(), Desk()
        one.tell("new a ring 0")
        self.assertEqual([one.names(), other.names()], [["a"], []])

    def test_long_lines(self):
        desk = Desk()
        desk.tell("new a " + " ".join(["ring"] + ["5*2"] * 130))
        self.assertEqual(desk.tell("wake a " + " ".join(str(k % 130) for k in range(410))), "130")
        self.assertEqual(len(desk.journal("a").entries), 130)


class WrongLines(unittest.TestCase):
    LINES = (("", 0), (" ", 0), ("nwe a ring 1", 0), ("New a ring 1", 0), ("new\ta ring 1", 0), ("show\n", 0),
             (" show a", 0), ("a show", 0), ("tell a", 0), ("journal a", 0), ("-", 0), ("shows a", 0), ("0", 0),
             ("new", 1), ("wake", 1), ("round", 1), ("undo", 1), ("redo", 1), ("show", 1), ("rest", 1), ("heads", 1),
             ("ends", 1), ("drop", 1),
             ("new  a ring 1", 1), ("show ", 1), ("show  a", 1), ("show A", 1), ("show a1", 1), ("show a-b", 1),
             ("show a\n", 1), ("undo \t", 1), ("wake 1 0", 1), ("new abcdefghijklm ring 1", 1), ("new Ab ring x", 1),
             ("drop abcdefghijklm", 1), ("rest _", 1), ("heads {a", 1), ("ends `a", 1), ("redo 0 0", 1),
             ("new a", 2), ("new a ", 2), ("new a rin 1", 2), ("new a  ring 1", 2), ("new a 1 2", 2),
             ("new a ring\n 1", 2), ("wake a", 2), ("wake a ", 2), ("wake a  0", 2), ("wake a x", 2), ("wake a 1,0", 2),
             ("wake a 0,0 1", 2), ("wake a 01", 2), ("wake a -1", 2), ("wake a 0\n", 2), ("wake a 0,", 2),
             ("round a b", 2), ("undo a 0", 2), ("redo a redo a", 2), ("show a ", 2), ("show a  ", 2), ("rest a no", 2),
             ("heads a -", 2), ("ends a 1", 2), ("drop a a", 2), ("round a 0 1", 2),
             ("new a ring", 3), ("new a row", 3), ("new a ring ", 3), ("new a ring x", 3), ("new a ring 1*1", 3),
             ("new a ring 01 2", 3), ("new a ring  1", 3), ("wake a 0 x", 3), ("wake a - ", 3), ("wake a 0 2,1 x", 3),
             ("new a ring 1 1*0", 4), ("new a ring 1 ", 4), ("new a row 1  2", 4), ("new a ring 1 2*", 4),
             ("new a ring 1 1000000000000000", 4), ("wake a 0 - 0,1,1", 4), ("wake a 0 - 1000000000000000", 4))

    def test_each(self):
        for desk in (Desk(), filled()):
            before = shown(desk)
            for line, word in self.LINES:
                with self.subTest(line):
                    self.assertEqual(raised(self, BadLine, desk.tell, line), {"word": word})
                    self.assertEqual(raised(self, BadLine, desk.tell_all, ["new q ring 1", line]), {"word": word})
                    self.assertEqual(shown(desk), before)

    def test_every_verb_with_every_wrong_name(self):
        desk = filled()
        for verb, rest in (("new", " ring 1"), ("wake", " 0"), ("round", ""), ("undo", ""), ("redo", ""), ("show", ""),
                           ("rest", ""), ("heads", ""), ("ends", ""), ("drop", "")):
            self.assertEqual(raised(self, BadLine, desk.tell, verb), {"word": 1})
            for name in ("", "A", "a.b", "abcdefghijklm", "a\t", "7", "aZ", "{}", "`"):
                self.assertEqual(raised(self, BadLine, desk.tell, f"{verb} {name}{rest}"), {"word": 1})
                self.assertEqual(raised(self, BadLine, desk.tell, f"{verb} {name}"), {"word": 1})
            if not rest:
                self.assertEqual(raised(self, BadLine, desk.tell, f"{verb} a x"), {"word": 2})
            else:
                self.assertEqual(raised(self, BadLine, desk.tell, f"{verb} a"), {"word": 2})

    def test_of_several_wrong_words_the_first(self):
        desk = Desk()
        for line, word in (("nwe A x", 0), ("new A x", 1), ("new a x 01", 2), ("new a row 01 x", 3), ("wake A x", 1),
                           ("show A b", 1), ("wake a 1 x 2,1", 3)):
            self.assertEqual(raised(self, BadLine, desk.tell, line), {"word": word})


class Errors(unittest.TestCase):
    CALLS = [(BadPlace, "wake a 0 1 3", {"place": 3}), (BadPlace, "wake a 0,7,9 8", {"place": 7}),
             (NothingToUndo, "undo empty", {}), (NothingToRedo, "redo empty", {}), (NothingToRedo, "redo row", {}),
             (WrongKind, "ends row", {"ring": False}), (WrongStart, "ends steep", {}),
             (UnknownName, "wake q 0", {"name": "q"}), (UnknownName, "drop q", {"name": "q"}),
             (NameTaken, "new a ring 1", {"name": "a"}), (NameTaken, "new row row 1", {"name": "row"})]

    def test_each(self):
        for kind, line, told in self.CALLS:
            desk = filled()
            before = shown(desk)
            self.assertEqual(raised(self, kind, desk.tell, line), told)
            self.assertEqual(shown(desk), before)

    def test_unknown_names(self):
        desk = filled()
        for line in ("wake q 0", "round q", "undo q", "redo q", "show q", "rest q", "heads q", "ends q", "drop q"):
            self.assertEqual(raised(self, UnknownName, desk.tell, line), {"name": "q"})
        for name in ("q", "", "A", "abcdefghijklm", "a "):
            self.assertEqual(raised(self, UnknownName, desk.journal, name), {"name": name})
        desk.tell("drop a")
        self.assertEqual(raised(self, UnknownName, desk.tell, "show a"), {"name": "a"})
        self.assertEqual(raised(self, UnknownName, desk.journal, "a"), {"name": "a"})

    def test_a_wrong_line_is_told_before_the_name_and_the_name_before_the_rest(self):
        desk = filled()
        for line in ("wake q 1,0", "new a rin", "show q x", "new a ring", "wake q"):
            raised(self, BadLine, desk.tell, line)
        self.assertEqual(raised(self, UnknownName, desk.tell, "wake q 99"), {"name": "q"})
        self.assertEqual(raised(self, NameTaken, desk.tell, "new a ring 5"), {"name": "a"})

    def test_nothing_of_tell_all_stays_after_an_error(self):
        lines = ["wake a 2 0", "undo twice", "redo twice", "round c", "undo twice", "new fresh ring 0 1", "wake fresh 0",
                 "drop c"]
        for kind, line, told in self.CALLS:
            for place in (0, 4, len(lines)):
                desk = filled()
                before = shown(desk)
                journals = [desk.journal(name) for name in desk.names()]
                self.assertEqual(raised(self, kind, desk.tell_all, lines[:place] + [line] + lines[place:]), told)
                self.assertEqual(shown(desk), before)
                self.assertEqual([state(journal) for journal in journals], [part[1] for part in before])
                # The desk works on as if nothing had been told.
                self.assertEqual(desk.tell_all(lines), filled().tell_all(lines))

    def test_an_error_in_the_last_line(self):
        desk = filled()
        before = shown(desk)
        for last in ("", "show", "undo nobody", "wake a 5", "new a ring 1"):
            with self.assertRaises((BadLine, UnknownName, BadPlace, NameTaken)):
                desk.tell_all(["wake a 2", "drop c", "new b ring 2", "undo twice", last])
            self.assertEqual(shown(desk), before)
        # The lines after an error are not looked at.
        self.assertEqual(raised(self, BadLine, desk.tell_all, ["show a", "x", "drop a", 5]), {"word": 0})
        self.assertEqual(shown(desk), before)


class TellAll(unittest.TestCase):
    def test_ordinary(self):
        desk = Desk()
        lines = ["new a ring 2 1 2", "wake a 2 0", "show a", "heads a", "undo a", "show a", "rest a"]
        self.assertEqual(desk.tell_all(lines), ["ok", "2", "ring 3 1 1", "0", "1", "ring 2 1 1", "no"])
        self.assertEqual(desk.tell_all([]), [])
        self.assertEqual(desk.tell_all(["redo a", "drop a"]), ["1", "ok"])
        self.assertEqual(desk.names(), [])
        self.assertEqual(len(lines), 7)

    def test_as_one_line_after_another(self):
        lines = ["wake a 2 0", "undo twice", "redo twice", "round c", "undo row", "drop empty", "new q ring 0 1",
                 "wake q 0", "drop c", "new c row 1", "ends q", "heads row"]
        one, other = filled(), filled()
        self.assertEqual(one.tell_all(lines), [other.tell(line) for line in lines])
        self.assertEqual(shown(one), shown(other))


class Copies(unittest.TestCase):
    def test_a_copy_has_the_entries_and_the_undone_ones(self):
        desk = filled()
        journal = desk.journal("a")
        self.assertIsInstance(journal, Journal)
        self.assertEqual(journal.start, Beads([2, 1, 2]))
        self.assertEqual(journal.entries, [((2,), ((2, 2, 1),))])
        self.assertEqual(journal.undone, [((0,), ((0, 2, 3),))])
        self.assertEqual([journal.now, journal.busy], [Beads([2, 1, 1]), False])
        self.assertEqual(journal.redo(), [(0, 2, 3)])

    def test_what_is_done_with_the_copy_has_no_effect_on_the_desk(self):
        desk = filled()
        before = shown(desk)
        for act in (lambda j: j.wake([0]), lambda j: j.undo(), lambda j: j.redo(), lambda j: j.perform([[2], [0, 1]]),
                    lambda j: j.history().clear(), lambda j: j.tallies().clear()):
            journal = desk.journal("a")
            act(journal)
            self.assertEqual(shown(desk), before)

    def test_later_lines_have_no_effect_on_the_copy(self):
        desk = filled()
        journal = desk.journal("a")
        before = state(journal)
        for line in ("redo a", "undo a", "wake a 0,1,2", "round a", "drop a", "new a ring 7"):
            desk.tell(line)
            self.assertEqual(state(journal), before)
        other = desk.journal("c")
        desk.tell_all(["round c", "drop c"])
        self.assertEqual(state(other), state(filled().journal("c")))

    def test_two_copies_do_not_touch_each_other(self):
        desk = filled()
        one, other = desk.journal("a"), desk.journal("a")
        one.redo()
        self.assertEqual(state(other), state(desk.journal("a")))
