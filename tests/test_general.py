"""Promise [1]: equal answers, nothing changed, ratios and integers; and where the interface has its names."""

import importlib
import inspect
import math
import unittest

from silentdecks.errors import BadInput, BadWay, BadWish
from silentdecks.judging import ends_surely, is_sound, shows_sound, sound_table
from silentdecks.texts import read_way, sample, written
from silentdecks.ways import first_row, inputs, is_way

LISTED = {
    "errors": ("DeckError", "BadWay", "BadWish", "BadInput", "BadSights", "BadCoins", "BadNumber", "BadFormula", "BadText",
               "TooMany"),
    "ways": ("is_way", "inputs", "first_row"),
    "judging": ("is_sound", "shows_sound", "ends_surely", "sound_table"),
    "texts": ("written", "read_way", "sample"),
}
PARAMETERS = {
    is_way: "value", inputs: "way", first_row: "way one", is_sound: "way wish", shows_sound: "way wish value",
    ends_surely: "way wish", sound_table: "way wish", written: "way", read_way: "text", sample: "name",
}


class General(unittest.TestCase):
    def test_each_name_is_defined_in_its_file(self):
        for module, names in LISTED.items():
            for name in names:
                found = getattr(importlib.import_module("silentdecks." + module), name)
                self.assertEqual(found.__module__, "silentdecks." + module, name)

    def test_names_of_arguments(self):
        for function, names in PARAMETERS.items():
            self.assertEqual(list(inspect.signature(function).parameters), names.split(), function)

    def test_equal_arguments_have_equal_answers(self):
        for name in ("five", "double", "again", "look"):
            way, wish = sample(name)
            other = read_way(written(way))
            self.assertEqual(sample(name), (way, wish))
            for judge in (is_sound, ends_surely, sound_table):
                self.assertEqual(judge(way, wish), judge(other, tuple(list(wish))))

    def test_nothing_is_changed(self):
        value = [1, [0], [["lay", [[0, 1]]]]]
        held = (1, (), [("lay", ((0, 1),))])
        self.assertIs(is_way(value), False)
        self.assertIs(is_way(held), False)
        self.assertEqual((value, held), ([1, [0], [["lay", [[0, 1]]]]], (1, (), [("lay", ((0, 1),))])))

    def test_ratios_and_integers(self):
        for name in ("five", "double", "again"):
            for number, table in sound_table(*sample(name)):
                self.assertIs(int, number.__class__)
                for row, (above, below) in [chance for entry in table if entry is not None for chance in entry]:
                    self.assertEqual({card.__class__ for card in row + (above, below)}, {int})
                    self.assertEqual(math.gcd(above, below), 1)
                    self.assertTrue(0 < above <= below)

    def test_errors_come_in_the_sequence_of_the_arguments(self):
        way = sample("again")[0]
        for judge in (is_sound, ends_surely, sound_table, lambda way, wish: shows_sound(way, wish, None)):
            self.assertRaises(BadWay, judge, None, None)
            self.assertRaises(BadWish, judge, way, None)
        self.assertRaises(BadWay, first_row, None, None)
        self.assertRaises(BadInput, first_row, way, None)
