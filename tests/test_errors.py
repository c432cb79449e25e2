"""The error classes of the interface and their fields."""

import unittest

from bellcopies import errors

PLAIN = (
    "BadSize", "BadBells", "BadSigns", "BadPerson", "BadStair", "BadPair", "BadCount", "BadMoves", "BadRising",
    "BadLift", "BadLog", "BadGoal", "BadPrices", "NoFit", "BadStarts", "BadOdds", "NotText", "BadArc", "TooLong",
    "BadSign", "NothingToUndo", "BadGroup", "BadChances",
)
WITH_FIELD = {
    "BadWeb": "index", "BadHearings": "index", "BadTimes": "index", "InvalidText": "place", "TooMany": "most",
}


class Errors(unittest.TestCase):
    def test_base_class(self):
        self.assertEqual(errors.BellError.__bases__, (ValueError,))

    def test_direct_subclasses(self):
        for name in PLAIN + tuple(WITH_FIELD):
            with self.subTest(name=name):
                self.assertEqual(getattr(errors, name).__bases__, (errors.BellError,))

    def test_plain_errors_are_created_without_arguments(self):
        for name in PLAIN:
            with self.subTest(name=name), self.assertRaises(errors.BellError):
                raise getattr(errors, name)()

    def test_fields(self):
        for name, field in WITH_FIELD.items():
            for content in (None, 0, 7):
                with self.subTest(name=name, content=content):
                    self.assertEqual(getattr(getattr(errors, name)(content), field), content)

    def test_no_other_classes(self):
        found = {name for name, value in vars(errors).items() if isinstance(value, type)}
        self.assertEqual(found, set(PLAIN) | set(WITH_FIELD) | {"BellError"})
