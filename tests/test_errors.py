"""The error classes of the interface and their fields."""

import unittest

from flankturns import errors

PLAIN = ["BadCell", "BadTime", "BadCells", "NotText", "Swings", "BadCount", "BadFrame", "BadWish", "BadPrices",
         "BadSights", "BadFlag", "BadOdds", "BadSeen", "BadIndex", "BadNames", "NothingToUndo", "NothingToRedo",
         "BadKind", "BadPainted"]
FIELDS = {"BadLine": "index", "InvalidText": "place", "TooMany": "most", "BadWeb": "index", "InvalidLine": "word"}


class TestErrors(unittest.TestCase):
    def test_base(self):
        self.assertEqual(errors.FlankError.__bases__, (ValueError,))

    def test_each_class_is_a_direct_subclass(self):
        for name in PLAIN + list(FIELDS):
            self.assertEqual(getattr(errors, name).__bases__, (errors.FlankError,), name)
            self.assertEqual(getattr(errors, name).__module__, "flankturns.errors", name)

    def test_plain_errors_are_made_without_fields(self):
        for name in PLAIN:
            self.assertIsInstance(getattr(errors, name)(), ValueError)

    def test_fields(self):
        for name, field in FIELDS.items():
            for value in (0, 7, 2000):
                self.assertEqual(getattr(getattr(errors, name)(value), field), value)
            made = getattr(errors, name)(**{field: 5})
            self.assertEqual(getattr(made, field), 5)
        self.assertIsNone(errors.BadLine(None).index)
        self.assertIsNone(errors.BadWeb(None).index)
