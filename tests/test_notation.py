import unittest
from itertools import product

from retinue.beads import Beads
from retinue.errors import BadText
from retinue.notation import read_beads, read_order, write_beads, write_order
from tests.support import raised, standings


def is_number(word):
    return word != "" and set(word) <= set("0123456789") and (word == "0" or word[0] != "0")


def is_bead(word):
    """Whether the word is that of a bead."""
    parts = word.split("*")
    return all(map(is_number, parts)) and (len(parts) == 1 or len(parts) == 2 and parts[1] not in ("0", "1"))


def is_handful(word):
    """Whether the word is that of a handful."""
    if word == "-":
        return True
    parts = word.split(",")
    return all(map(is_number, parts)) and all(int(one) < int(other) for one, other in zip(parts, parts[1:]))


class BeadsTexts(unittest.TestCase):
    def test_ordinary(self):
        for text, beads in (("ring 3 1*2 0", Beads([3, 1, 0], [1, 2, 1])), ("row 0", Beads([0], ring=False)),
                            ("ring 0*5", Beads([0], [5])), ("row 10 0*10 7*1000000000",
                                                            Beads([10, 0, 7], [1, 10, 10 ** 9], ring=False)),
                            ("ring 1000000000000", Beads([10 ** 12]))):
            self.assertEqual(write_beads(beads), text)
            self.assertEqual(read_beads(text), beads)

    def test_there_and_back(self):
        for beads in standings(strengths=(0, 1, 12)):
            self.assertEqual(read_beads(write_beads(beads)), beads)
        for ring in (True, False):
            many = Beads([k * k for k in range(130)], [1 + k % 3 for k in range(130)], ring=ring)
            self.assertEqual(read_beads(write_beads(many)), many)

    def test_each_word_of_up_to_four_signs(self):
        for many in range(5):
            for signs in product("012*,-", repeat=many):
                word = "".join(signs)
                for text, index in ((f"ring {word}", 1), (f"row 5 {word} 0*3", 2)):
                    if is_bead(word):
                        self.assertEqual(write_beads(read_beads(text)), text)
                    else:
                        self.assertEqual(raised(self, BadText, read_beads, text), {"word": index})

    def test_wrong_words(self):
        for text, word in (("", 0), (" ", 0), ("rin 1", 0), ("Ring 1", 0), ("ring1", 0), (" ring 1", 0), ("1 ring", 0),
                           ("ring\t1", 0), ("\nring 1", 0), ("ring\n 1", 0), ("rows 1", 0), ("ring row 1", 1),
                           ("ring", 1), ("row", 1), ("ring ", 1), ("row  1", 1), ("ring 1 ", 2), ("ring 1  2", 2),
                           ("ring 1 x", 2), ("row -1", 1), ("row +1", 1), ("ring 1 01", 2), ("ring 00", 1),
                           ("ring 1*1", 1), ("ring 1*0", 1), ("ring 1 2*01", 2), ("ring 1 2*02", 2), ("ring 02*2", 1),
                           ("ring *2", 1), ("ring 2*", 1), ("ring *", 1), ("ring 2**3", 1), ("ring 2*3*4", 1),
                           ("ring 2* 3", 1), ("ring 1,2", 1), ("ring 1.0", 1), ("ring 1_0", 1), ("ring 1\n", 1),
                           ("ring 1 2\t3", 2), ("row 1 2 3\n", 3), ("ring 1e3", 1), ("ring -", 1), ("ring 1 1*1 x", 2),
                           ("ring 2*-3", 1), ("row 0 0*2 0*3 0*1", 4)):
            with self.subTest(text):
                self.assertEqual(raised(self, BadText, read_beads, text), {"word": word})

    def test_fifteen_and_sixteen_digits(self):
        long, longer = 10 ** 15 - 1, 10 ** 15
        self.assertEqual(read_beads(f"ring {long} 1*{long}"), Beads([long, 1], [1, long]))
        self.assertEqual(read_beads(f"row {10 ** 14}*{10 ** 14}"), Beads([10 ** 14], [10 ** 14], ring=False))
        for text, word in ((f"ring 1 {longer}", 2), (f"ring {longer}*2", 1), (f"ring 1 2 2*{longer}", 3),
                           ("ring " + "0" * 16, 1), ("ring 0" + "1" * 14, 1), ("ring " + "9" * 5000, 1)):
            self.assertEqual(raised(self, BadText, read_beads, text), {"word": word})


class OrderTexts(unittest.TestCase):
    def test_ordinary(self):
        for text, order in (("0,3 - 2", [(0, 3), (), (2,)]), ("", []), ("-", [()]), ("- -", [(), ()]), ("0", [(0,)]),
                            ("1,2,10 0,119", [(1, 2, 10), (0, 119)])):
            self.assertEqual(write_order(order), text)
            self.assertEqual(write_order(tuple(list(handful) for handful in order)), text)
            told = read_order(text)
            self.assertEqual(told, order)
            self.assertIsInstance(told, list)
            self.assertTrue(all(isinstance(handful, tuple) for handful in told))

    def test_places_are_written_ascending_without_repeats(self):
        self.assertEqual(write_order([[3, 0, 3], (), [10, 9, 2, 10]]), "0,3 - 2,9,10")
        self.assertEqual(write_order(([64, 8, 1, 69, 33], (5, 5))), "1,8,33,64,69 5")

    def test_each_text_of_up_to_five_signs(self):
        for many in range(6):
            for signs in product("012,- ", repeat=many):
                text = "".join(signs)
                words = text.split(" ")
                wrong = [index for index, word in enumerate(words) if not is_handful(word)]
                if text == "":
                    self.assertEqual(read_order(text), [])
                elif wrong:
                    self.assertEqual(raised(self, BadText, read_order, text), {"word": wrong[0]})
                else:
                    self.assertEqual(write_order(read_order(text)), text)

    def test_wrong_words(self):
        for text, word in ((" ", 0), ("  ", 0), (" 1", 0), ("1 ", 1), ("1  2", 1), ("1,", 0), (",1", 0), ("1,,2", 0),
                           (",", 0), ("2,1", 0), ("1,1", 0), ("0 3,2", 1), ("01", 0), ("0 1,02", 1), ("00", 0),
                           ("-1", 0), ("+1", 0), ("--", 0), ("-,1", 0), ("1,-", 0), ("- x", 1), ("1;2", 0),
                           ("1\n", 0), ("1\t2", 0), ("1 2 3\n", 2), ("\n", 0), ("1, 2", 0), ("10,9", 0),
                           ("0 0 0 1*2", 3)):
            with self.subTest(text):
                self.assertEqual(raised(self, BadText, read_order, text), {"word": word})

    def test_fifteen_and_sixteen_digits(self):
        long, longer = 10 ** 15 - 1, 10 ** 15
        self.assertEqual(read_order(f"0,{long} {long}"), [(0, long), (long,)])
        for text, word in ((f"0 {longer}", 1), (f"0,{longer}", 0), ("0" * 16, 0), ("1 2 " + "9" * 5000, 2)):
            self.assertEqual(raised(self, BadText, read_order, text), {"word": word})

    def test_long_orders(self):
        order = [tuple(range(k % 7, 120, 1 + k % 5)) for k in range(450)]
        self.assertEqual(read_order(write_order(order)), order)
