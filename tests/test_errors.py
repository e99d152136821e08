"""Tests of switchhills.errors."""

import unittest

from switchhills import errors
from switchhills.boards import Board

BASES = {"WrongValue": ValueError, "WrongName": LookupError, "NotPossible": ArithmeticError}

ATTRIBUTES = {
    "WrongValue": {
        "given": (
            "InvalidText", "InvalidPart", "InvalidSquare", "InvalidFact", "InvalidIndex",
            "InvalidWish", "InvalidCommand", "NotABoard", "NotNotes", "NotARanking",
            "OtherBoard", "SameSetting",
        ),
        "index": (
            "InvalidSizes", "InvalidFacts", "InvalidOrder", "InvalidPeaks", "InvalidWalks",
            "InvalidRests",
        ),
    },
    "WrongName": {"given": ("UnknownSetting",)},
    "NotPossible": {"given": ("TooMany",), "index": ("Broken",), None: ("NothingToUndo",)},
}

MEMBERS = [
    (base, attribute, name)
    for base, by_attribute in ATTRIBUTES.items()
    for attribute, names in by_attribute.items()
    for name in names
]

WITH_ATTRIBUTE = [(attribute, name) for _, attribute, name in MEMBERS if attribute is not None]

VALUES = [
    None, True, False, 0, -1, 3, 10 ** 40, "", "00", "a\nb", b"", b"\x00", (), ("00", "01"), [],
    [1, [2, [3]]], {}, {"a": [1]}, {1, 2}, frozenset(), object(), int, len, Board((2, 2)),
    ValueError("why"), errors.WrongValue(), errors.NothingToUndo(),
]


class Classes(unittest.TestCase):
    def test_the_listed_classes_are_all(self):
        found = {
            name for name, value in vars(errors).items()
            if isinstance(value, type) and value.__module__ == "switchhills.errors"
        }
        self.assertEqual(found, {*BASES, *[name for _, _, name in MEMBERS]})

    def test_the_bases_are_under_classes_of_the_language(self):
        for name, language in BASES.items():
            with self.subTest(name):
                self.assertEqual(getattr(errors, name).__bases__, (language,))

    def test_each_class_is_under_its_base_alone(self):
        for base, _, name in MEMBERS:
            with self.subTest(name):
                self.assertEqual(getattr(errors, name).__bases__, (getattr(errors, base),))

    def test_caught_by_the_base_and_by_the_class_of_the_language(self):
        for base, attribute, name in MEMBERS:
            values = () if attribute is None else (4,)
            for caught in (getattr(errors, base), BASES[base], getattr(errors, name)):
                with self.subTest(name, caught=caught.__name__):
                    with self.assertRaises(caught):
                        raise getattr(errors, name)(*values)


class Attributes(unittest.TestCase):
    def test_made_of_nothing(self):
        for name in [*BASES, "NothingToUndo"]:
            with self.subTest(name):
                error = getattr(errors, name)()
                self.assertEqual(vars(error), {})
                self.assertTrue(error)

    def test_by_position_and_by_name(self):
        for attribute, name in WITH_ATTRIBUTE:
            made = getattr(errors, name)
            for value in VALUES:
                with self.subTest(name, value=repr(value)):
                    for error in (made(value), made(**{attribute: value})):
                        self.assertIs(getattr(error, attribute), value)
                        self.assertEqual(list(vars(error)), [attribute])
                        self.assertTrue(error)

    def test_defined_in_the_class_itself(self):
        for _, name in WITH_ATTRIBUTE:
            with self.subTest(name):
                self.assertIn("__init__", vars(getattr(errors, name)))

    def test_kept_when_raised(self):
        for attribute, name in WITH_ATTRIBUTE:
            value = [name]
            with self.subTest(name):
                with self.assertRaises(getattr(errors, name)) as caught:
                    raise getattr(errors, name)(value)
                self.assertIs(getattr(caught.exception, attribute), value)


if __name__ == "__main__":
    unittest.main()
