"""Each name of the interface is defined in its own file, with its arguments."""

import importlib
import inspect
import unittest

FUNCTIONS = {
    "trains": ["train_of(beads, place)", "reach_of(beads, place)", "stopper_of(beads, place)",
               "reaches(beads)", "lords_of(beads)", "leaders_of(beads)"],
    "forest": ["outcome_fault(beads)", "origin_of(beads)"],
    "waking": ["changes_of(beads, handful)", "wake(beads, handful)", "wake_all(beads)", "restless(beads)",
               "hungry(beads)", "at_rest(beads)", "run_order(beads, order)", "unwind(beads, log)"],
    "tally": ["tally_of(beads)", "compare_tallies(one, other)", "touched(beads, handful)"],
    "back": ["strengths_before(beads, place)", "last_wakers(beads)"],
    "web": ["told_to(web, being)", "web_changes(web, handful)", "wake_web(web, handful)", "web_tally(web)",
            "settle_web(web, *, limit=100)", "web_of(beads)"],
    "sweeps": ["sweep_row(beads)"],
    "arcs": ["cuttings(beads)", "arc_length(beads, cut)", "settled_cut(beads)", "resting_cut(beads)",
             "least_arc(beads, *, hand=1)"],
    "starts": ["is_low(beads)", "is_level(beads)"],
    "ends": ["cut_fault(beads, cut, *, hand=1)", "ends_of(beads, *, hand=1)"],
    "plans": ["plan_cut(beads, cut, *, hand=1)", "least_wakings(beads, cut)", "finish(beads)"],
    "leading": ["locked_heads(beads)", "lead_plan(beads)", "can_lead(beads)", "tall_plan(beads, place)"],
    "blocks": ["block_sums(beads, cut)", "row_fault(beads, cut)", "row_plan(beads, cut)", "forced_heads(beads)"],
    "rowends": ["count_row_ends(beads)", "row_end_at(beads, index)", "row_end_rank(beads, cut)",
                "most_leaders(beads)"],
    "rounds": ["rounds_of(beads)", "last_change(beads, place)", "round_heads(beads)", "final_heads(beads)"],
    "books": ["books_of(beads)"],
    "lineage": ["lineage_of(beads, place)", "least_total(number)", "most_rounds(total)"],
    "words": ["arc_word(number)", "sharp_start(number, *, ring=True, extra=0)", "short_start(number)"],
    "rests": ["count_rests(lengths, seen=None)", "rest_at(lengths, index, seen=None)", "rest_rank(beads)"],
    "sight": ["possible(lengths, seen, place)", "sure_places(lengths, seen)"],
    "ringrests": ["count_ring_rests(lengths, seen=None)", "ring_rest_at(lengths, index, seen=None)",
                  "ring_rest_rank(beads)"],
    "orders": ["woken_once(lengths, order, *, ring=False)", "count_orders(beads)", "order_at(beads, index)"],
    "marks": ["wipers_of(marks)", "wipe(marks, place)"],
    "markends": ["mark_fault(marks, end)", "mark_ends(marks)", "wipe_plan(marks, end)", "ring_of_marks(marks)"],
    "hands": ["last_hand(marks)", "good_wipes(marks)"],
    "markrounds": ["mark_round(marks)", "mark_rounds(marks)", "count_before(marks)", "before_at(marks, index)"],
    "even": ["even_marks(size, many)", "remainders(size, many)", "golden_marks(number)", "is_golden(marks)"],
    "notation": ["write_beads(beads)", "read_beads(text)", "write_order(order)", "read_order(text)"],
    "lookers": ["order_fault(beads, order, cut)", "log_fault(beads, log)", "paper_fault(paper)",
                "lineage_fault(beads, place, lineage)", "wipe_fault(marks, plan, end)"],
}
CLASSES = {
    "beads.Beads": ["(strengths, lengths=None, *, ring=True)", "total(self)", "greatest(self)",
                    "with_strength(self, place, strength)", "as_row(self, place)"],
    "web.Web": ["(looks, strengths)"],
    "marks.Marks": ["(size, places)"],
    "journal.Journal": ["(start)", "wake(self, handful)", "undo(self)", "redo(self)", "tallies(self)",
                        "perform(self, order, *, to_rest=False)", "history(self)"],
    "desk.Desk": ["()", "tell(self, line)", "tell_all(self, lines)", "names(self)", "journal(self, name)"],
}
SIGNS = {"beads.Beads": ["__len__", "__iter__", "__eq__", "__add__", "__mul__"],
         "marks.Marks": ["__len__", "__iter__", "__eq__"], "journal.Journal": ["__len__", "__iter__"]}


class Interface(unittest.TestCase):
    def test_functions(self):
        for file, wanted in FUNCTIONS.items():
            module = importlib.import_module("retinue." + file)
            for words in wanted:
                with self.subTest(file=file, words=words):
                    function = getattr(module, words.partition("(")[0])
                    self.assertEqual(function.__name__ + str(inspect.signature(function)), words)
                    self.assertEqual(function.__module__, module.__name__)

    def test_classes(self):
        for name, (made, *methods) in CLASSES.items():
            module = importlib.import_module("retinue." + name.partition(".")[0])
            kind = getattr(module, name.partition(".")[2])
            self.assertEqual(kind.__module__, module.__name__)
            self.assertEqual(str(inspect.signature(kind)), made)
            for words in methods:
                with self.subTest(kind=name, words=words):
                    method = vars(kind)[words.partition("(")[0]]
                    self.assertEqual(method.__name__ + str(inspect.signature(method)), words)
            for sign in SIGNS.get(name, []):
                self.assertIn(sign, vars(kind))
