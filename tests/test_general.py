"""Promise [1]: equal answers, nothing changed, ratios and integers; and where the interface has its names."""

import importlib
import inspect
import math
import unittest

from silentdecks.errors import BadCoins, BadInput, BadNumber, BadSights, BadWay, BadWish
from silentdecks.finding import fewest_deeds, way_found
from silentdecks.judging import ends_surely, is_sound, shows_sound, sound_table
from silentdecks.making import is_formula, made, meaning
from silentdecks.running import hand, shuffles_passed
from silentdecks.sights import best_guess, first_leak, first_wrong, mean_shuffles, mean_turns, sight_chance
from silentdecks.texts import read_way, sample, written
from silentdecks.ways import first_row, inputs, is_way

LISTED = {
    "errors": ("DeckError", "BadWay", "BadWish", "BadInput", "BadSights", "BadCoins", "BadNumber", "BadFormula", "BadText",
               "TooMany"),
    "ways": ("is_way", "inputs", "first_row"),
    "judging": ("is_sound", "shows_sound", "ends_surely", "sound_table"),
    "sights": ("sight_chance", "first_leak", "first_wrong", "best_guess", "mean_turns", "mean_shuffles"),
    "running": ("hand", "shuffles_passed"),
    "making": ("is_formula", "meaning", "made"),
    "finding": ("way_found", "fewest_deeds"),
    "texts": ("written", "read_way", "sample"),
}
PARAMETERS = {
    is_way: "value", inputs: "way", first_row: "way one", is_sound: "way wish", shows_sound: "way wish value",
    ends_surely: "way wish", sound_table: "way wish", written: "way", read_way: "text", sample: "name",
    sight_chance: "way one sights", first_leak: "way wish many", first_wrong: "way wish many",
    best_guess: "way one other many", mean_turns: "way one", mean_shuffles: "way one", hand: "way one coins",
    shuffles_passed: "way one coins", is_formula: "value", meaning: "formula", made: "formula",
    way_found: "bits helps wish shuffles deeds", fewest_deeds: "bits helps wish shuffles",
}
BOTH = ("and", ("bit", 0), ("not", ("bit", 1)))
SWAP = ((0, 1, 2, 3), (1, 0, 3, 2))


class General(unittest.TestCase):
    def test_each_name_is_defined_in_its_file(self):
        for module, names in LISTED.items():
            for name in names:
                found = getattr(importlib.import_module("silentdecks." + module), name)
                self.assertEqual(found.__module__, "silentdecks." + module, name)

    def test_names_of_arguments(self):
        for function, names in PARAMETERS.items():
            self.assertEqual(list(inspect.signature(function).parameters), names.split(), function)

    def test_equal_arguments_have_equal_answers(self):
        for name in ("five", "double", "again", "look"):
            way, wish = sample(name)
            other = read_way(written(way))
            self.assertEqual(sample(name), (way, wish))
            for judge in (is_sound, ends_surely, sound_table):
                self.assertEqual(judge(way, wish), judge(other, tuple(list(wish))))
            one = (1,) * way[0]
            for judge in (lambda way: first_leak(way, wish, 3), lambda way: first_wrong(way, wish, 3),
                          lambda way: best_guess(way, one, (0,) * way[0], 3), lambda way: mean_turns(way, one),
                          lambda way: mean_shuffles(way, one), lambda way: hand(way, one, (1, 2, 3)),
                          lambda way: shuffles_passed(way, one, (1, 2, 3)), lambda way: sight_chance(way, one, ((1,),))):
                self.assertEqual(judge(way), judge(other))
        self.assertEqual(meaning(BOTH), meaning(tuple(list(BOTH))))
        self.assertEqual(fewest_deeds(1, (0, 1), ((0,), (1,)), (SWAP,)), fewest_deeds(1, (0, 1), ((0,), (1,)), (SWAP,)))

    def test_nothing_is_changed(self):
        value = [1, [0], [["lay", [[0, 1]]]]]
        held = (1, (), [("lay", ((0, 1),))])
        self.assertIs(is_way(value), False)
        self.assertIs(is_way(held), False)
        self.assertEqual((value, held), ([1, [0], [["lay", [[0, 1]]]]], (1, (), [("lay", ((0, 1),))])))
        value = ["and", ["bit", 0], ["bit", 1]]
        held = ("and", ["bit", 0], ("bit", 1))
        self.assertIs(is_formula(value), False)
        self.assertIs(is_formula(held), False)
        self.assertEqual((value, held), (["and", ["bit", 0], ["bit", 1]], ("and", ["bit", 0], ("bit", 1))))

    def test_ratios_and_integers(self):
        for name in ("five", "double", "again"):
            for number, table in sound_table(*sample(name)):
                self.assertIs(int, number.__class__)
                for row, (above, below) in [chance for entry in table if entry is not None for chance in entry]:
                    self.assertEqual({card.__class__ for card in row + (above, below)}, {int})
                    self.assertEqual(math.gcd(above, below), 1)
                    self.assertTrue(0 < above <= below)

    def test_kinds_of_values(self):
        five, again = sample("five")[0], sample("again")[0]
        for ratio in (sight_chance(five, (0, 0), ((0, 1, 1, 0, 1),)), best_guess(five, (0, 0), (1, 1), 1),
                      mean_turns(again, (0,)), mean_shuffles(again, (0,)), sight_chance(again, (0,), ((0,), (0,)))):
            self.assertEqual([tuple, int, int], [ratio.__class__] + [part.__class__ for part in ratio])
            self.assertEqual(math.gcd(*ratio), 1)
            self.assertGreater(ratio[1], 0)
        self.assertIs(shuffles_passed(again, (0,), (0,)).__class__, int)
        self.assertIs(fewest_deeds(1, (), ((0,), (1,)), ()).__class__, int)
        for way in (made(BOTH), way_found(1, (), ((0,), (1,)), (), 0), made(("bit", 0))):
            self.assertIs(is_way(way), True)
            self.assertEqual(read_way(written(way)), way)

    def test_errors_come_in_the_sequence_of_the_arguments(self):
        way = sample("again")[0]
        for judge in (is_sound, ends_surely, sound_table, lambda way, wish: shows_sound(way, wish, None)):
            self.assertRaises(BadWay, judge, None, None)
            self.assertRaises(BadWish, judge, way, None)
        for watch in (first_leak, first_wrong):
            self.assertRaises(BadWay, watch, None, None, None)
            self.assertRaises(BadWish, watch, way, None, None)
            self.assertRaises(BadNumber, watch, way, ((0,), (1,)), None)
        for judge, last in ((sight_chance, BadSights), (hand, BadCoins), (shuffles_passed, BadCoins)):
            self.assertRaises(BadWay, judge, None, None, None)
            self.assertRaises(BadInput, judge, way, None, None)
            self.assertRaises(last, judge, way, (0,), None)
        self.assertRaises(BadWay, best_guess, None, None, None, None)
        self.assertRaises(BadInput, best_guess, way, None, (0,), None)
        self.assertRaises(BadInput, best_guess, way, (0,), None, None)
        self.assertRaises(BadNumber, best_guess, way, (0,), (1,), None)
        self.assertRaises(BadWay, first_row, None, None)
        self.assertRaises(BadInput, first_row, way, None)
