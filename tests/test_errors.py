import unittest

from retinue import errors

PLAIN = {
    "BadBeads": ["place"], "BadPlace": ["place"], "WrongKind": ["ring"],
    "NotOutcome": ["first", "second"], "BadLog": ["index"], "BadLook": ["being"],
    "BadCut": ["cut"], "NotAtRest": ["place"], "NotSettled": [], "WrongStart": [],
    "NoEnd": ["reason"], "NotTall": ["greatest", "total"], "OutOfRange": ["index", "count"],
    "NoLineage": ["place"], "BadSeen": ["size"], "BadOrder": ["index"], "NoOrder": [],
    "BadMarks": ["place"], "CannotWipe": ["place"], "BadText": ["word"], "NothingToUndo": [],
    "NothingToRedo": [], "BadLine": ["word"], "UnknownName": ["name"], "NameTaken": ["name"],
}


class Errors(unittest.TestCase):
    def test_base_class(self):
        self.assertEqual(errors.RetinueError.__bases__, (ValueError,))

    def test_classes_under_the_base_class_take_their_attributes_by_position(self):
        for name, attributes in PLAIN.items():
            with self.subTest(name):
                kind = getattr(errors, name)
                self.assertEqual(kind.__bases__, (errors.RetinueError,))
                told = [(name, number) for number in range(len(attributes))]
                error = kind(*told)
                self.assertEqual(vars(error), dict(zip(attributes, told)))
                if attributes:
                    self.assertRaises(TypeError, kind)
                    self.assertRaises(TypeError, kind, *told, "one too many")

    def test_classes_without_attributes_are_raised_without_arguments(self):
        for name, attributes in PLAIN.items():
            if not attributes:
                with self.subTest(name), self.assertRaises(errors.RetinueError):
                    raise getattr(errors, name)()

    def test_classes_under_no_end(self):
        locked = errors.Locked((0, 2))
        self.assertEqual(vars(locked), {"reason": ("locked", (0, 2)), "heads": (0, 2)})
        weak = errors.CannotLead(4)
        self.assertEqual(vars(weak), {"reason": ("weak", 4), "place": 4})
        for kind in (errors.Locked, errors.CannotLead):
            self.assertEqual(kind.__bases__, (errors.NoEnd,))

    def test_there_are_no_other_classes(self):
        classes = [name for name, kind in vars(errors).items() if isinstance(kind, type)]
        self.assertEqual(sorted(classes), sorted([*PLAIN, "RetinueError", "Locked", "CannotLead"]))

    def test_errors_can_be_shown(self):
        self.assertIn("7", str(errors.BadPlace(7)))
        self.assertIn("BadPlace", repr(errors.BadPlace(7)))
        self.assertIn("(0, 2)", repr(errors.Locked((0, 2))))
