"""The examples of the interface."""

import doctest
import pathlib
import unittest

from silentdecks.finding import fewest_deeds, way_found
from silentdecks.judging import ends_surely, is_sound, shows_sound, sound_table
from silentdecks.making import is_formula, made, meaning
from silentdecks.running import hand, shuffles_passed
from silentdecks.sights import best_guess, first_leak, first_wrong, mean_shuffles, mean_turns, sight_chance
from silentdecks.texts import read_way, sample, written
from silentdecks.ways import first_row, inputs, is_way


class Examples(unittest.TestCase):
    def test_ways(self):
        five, wish = sample('five')
        self.assertEqual(
            [is_way(five), inputs(five), first_row(five, (1, 0)), wish, is_way((1, (), (('lay', ((0, 2),)),)))],
            [True, ((0, 0), (0, 1), (1, 0), (1, 1)), (1, 0, 0, 1, 1), ((0,), (0,), (0,), (1,)), False])

    def test_judging(self):
        again, kept = sample('again')
        look, same = sample('look')
        self.assertEqual(
            [is_sound(again, kept), ends_surely(again, kept), len(sound_table(again, kept)),
             shows_sound(again, kept, sound_table(again, kept)), is_sound(look, same), sound_table(look, same),
             ends_surely(look, same)],
            [True, True, 4, True, False, None, None])

    def test_sights(self):
        five, wish = sample('five')
        again, kept = sample('again')
        look, same = sample('look')
        self.assertEqual(
            [sight_chance(five, (1, 1), ((0, 1, 1, 1, 0),)), best_guess(five, (0, 0), (0, 1), 2),
             best_guess(five, (0, 0), (1, 1), 2), mean_shuffles(again, (1,)), mean_turns(again, (1,)),
             first_leak(look, same, 2), first_wrong(look, same, 2)],
            [(1, 5), (1, 2), (1, 1), (2, 1), (2, 1), (((0,),), (0,), (1,), (1, 1), (0, 1)), None])

    def test_running(self):
        again, kept = sample('again')
        self.assertEqual(
            [hand(again, (1,), (1, 1, 0)), shuffles_passed(again, (1,), (1, 1, 0)), hand(again, (1,), (1,))],
            [(((1,), (0,)), ('lay', (1,)), (1, 0, 0, 1)), 2, (((1,),), ('more', 0), (1, 0, 1, 0))])

    def test_making(self):
        both = ('and', ('bit', 0), ('not', ('bit', 1)))
        self.assertEqual(
            [is_formula(both), meaning(both), made(both)[:2], is_sound(made(both), meaning(both)),
             is_formula(('and', ('bit', 0), ('bit', 0)))],
            [True, ((0,), (0,), (1,), (0,)), (2, (0, 1)), True, False])

    def test_finding(self):
        same = ((0, 1, 2, 3), (1, 0, 3, 2))
        self.assertEqual(
            [fewest_deeds(2, (), ((0,), (1,), (1,), (0,)), (same,)), way_found(2, (), ((0,), (0,), (0,), (1,)), (same,), 2),
             way_found(1, (), ((1,), (0,)), (), 0)],
            [2, None, (1, (), (('lay', ((1, 0),)),))])

    def test_texts(self):
        double, twice = sample('double')
        self.assertEqual(
            [written(double), read_way(written(double)) == double, twice],
            ['bits 1 helps 0101\nshuffle 0 1 2 3 4 5 / 1 0 3 2 5 4 to 1\nturn 0 : 0 to 2, 1 to 3\nlay 2 3 / 4 5\n'
             'lay 3 2 / 5 4\n', True, ((0, 0), (1, 1))])

    def test_readme(self):
        path = pathlib.Path(__file__).resolve().parent.parent / "README.md"
        failed, tried = doctest.testfile(str(path), module_relative=False)
        self.assertEqual(failed, 0)
        self.assertGreater(tried, 5)
