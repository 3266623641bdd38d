"""The examples of the interface for the modules that there are."""

import doctest
import pathlib
import unittest

from silentdecks.judging import ends_surely, is_sound, shows_sound, sound_table
from silentdecks.texts import read_way, sample, written
from silentdecks.ways import first_row, inputs, is_way


class Examples(unittest.TestCase):
    def test_ways(self):
        five, wish = sample('five')
        self.assertEqual(
            [is_way(five), inputs(five), first_row(five, (1, 0)), wish, is_way((1, (), (('lay', ((0, 2),)),)))],
            [True, ((0, 0), (0, 1), (1, 0), (1, 1)), (1, 0, 0, 1, 1), ((0,), (0,), (0,), (1,)), False])

    def test_judging(self):
        again, kept = sample('again')
        look, same = sample('look')
        self.assertEqual(
            [is_sound(again, kept), ends_surely(again, kept), len(sound_table(again, kept)),
             shows_sound(again, kept, sound_table(again, kept)), is_sound(look, same), sound_table(look, same),
             ends_surely(look, same)],
            [True, True, 4, True, False, None, None])

    def test_texts(self):
        double, twice = sample('double')
        self.assertEqual(
            [written(double), read_way(written(double)) == double, twice],
            ['bits 1 helps 0101\nshuffle 0 1 2 3 4 5 / 1 0 3 2 5 4 to 1\nturn 0 : 0 to 2, 1 to 3\nlay 2 3 / 4 5\n'
             'lay 3 2 / 5 4\n', True, ((0, 0), (1, 1))])

    def test_readme(self):
        path = pathlib.Path(__file__).resolve().parent.parent / "README.md"
        failed, tried = doctest.testfile(str(path), module_relative=False)
        self.assertEqual(failed, 0)
        self.assertGreater(tried, 5)
