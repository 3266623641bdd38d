"""The errors that the head of the interface lists."""

import unittest

from silentdecks import errors


class Errors(unittest.TestCase):
    def test_deck_error_is_a_value_error(self):
        self.assertEqual(errors.DeckError.__bases__, (ValueError,))

    def test_all_stand_directly_beneath_it(self):
        names = ("BadWay", "BadWish", "BadInput", "BadSights", "BadCoins", "BadNumber", "BadFormula", "BadText", "TooMany")
        for name in names:
            self.assertEqual(getattr(errors, name).__bases__, (errors.DeckError,), name)
            self.assertEqual(getattr(errors, name).__module__, "silentdecks.errors")

    def test_fields(self):
        bad = errors.BadWay("node", 3)
        self.assertEqual((bad.word, bad.node), ("node", 3))
        bad = errors.BadWay("form", None)
        self.assertEqual((bad.word, bad.node), ("form", None))
        self.assertEqual(errors.BadText(4).line, 4)
        self.assertEqual(errors.TooMany(300).most, 300)

    def test_the_others_take_nothing(self):
        for name in ("BadWish", "BadInput", "BadSights", "BadCoins", "BadNumber", "BadFormula"):
            self.assertIsInstance(getattr(errors, name)(), ValueError)

    def test_fields_are_asked_for(self):
        for error, few in ((errors.BadWay, ("node",)), (errors.BadText, ()), (errors.TooMany, ())):
            with self.assertRaises(TypeError):
                error(*few)
