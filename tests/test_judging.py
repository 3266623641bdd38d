"""Promises [4] and [5]: sound ways and others, and the places that show a way to be sound."""

import random
import unittest

from silentdecks.errors import TooMany
from silentdecks.judging import ends_surely, is_sound, shows_sound, sound_table
from silentdecks.texts import sample
from silentdecks.ways import is_way
from tests import oracle
from tests.builders import FLIP, LAY, ODD_VALUES, SAME, ZERO, look, moved_chain, one_bit, sharp, small_way, small_wish

TELLS = (("tell", (0,)), ("tell", (1,)))
XOR = ((0,), (1,), (1,), (0,))
WHOLE, HALF, THIRD, TWO_THIRDS = (1, 1), (1, 2), (1, 3), (2, 3)


class JudgeCase(unittest.TestCase):
    def sound(self, way, wish):
        self.assertIs(is_sound(way, wish), True)
        self.assertIs(ends_surely(way, wish), True)
        table = sound_table(way, wish)
        self.assertIsInstance(table, tuple)
        self.assertIs(shows_sound(way, wish, table), True)
        self.assertEqual(set(table), oracle.places(way))
        self.assertEqual(len(set(table)), len(table))

    def unsound(self, way, wish, surely=None):
        """surely is True or False for a way that is right and silent."""
        self.assertIs(is_sound(way, wish), False)
        self.assertIs(ends_surely(way, wish), surely)
        self.assertIsNone(sound_table(way, wish))


class Samples(JudgeCase):
    def test_sound_samples(self):
        for name in ("five", "double", "again"):
            self.sound(*sample(name))

    def test_look_is_right_but_not_silent(self):
        self.unsound(*sample("look"))

    def test_another_wish(self):
        self.unsound(sample("five")[0], XOR)
        self.unsound(sample("again")[0], ((1,), (0,)))
        self.unsound(sample("double")[0], ((0, 1), (1, 0)))


class Right(JudgeCase):
    def test_what_is_laid(self):
        self.sound(one_bit(LAY), SAME)
        self.sound(one_bit(FLIP), ((1,), (0,)))
        self.unsound(one_bit(FLIP), SAME)
        self.unsound(one_bit(LAY), ((0,), (0,)))
        self.sound(one_bit(("lay", ((2, 3),)), helps=(0, 1)), ZERO)
        self.sound(one_bit(("lay", ((2, 3), (1, 0))), helps=(1, 0)), ((1, 1), (1, 0)))

    def test_each_bit_counts(self):
        two = one_bit(("lay", ((0, 1), (2, 3))), helps=(0, 1))
        self.sound(two, ((0, 0), (1, 0)))
        self.unsound(two, ((0, 0), (1, 1)))
        self.unsound(two, ((0, 0), (0, 0)))

    def test_results_of_another_length(self):
        self.unsound(one_bit(LAY), ((0, 0), (1, 1)))
        self.unsound(one_bit(("lay", ((0, 1), (2, 3))), helps=(0, 1)), ZERO)
        self.unsound(one_bit(("tell", (0, 0))), ZERO)
        self.unsound(one_bit(("tell", (0,))), ((0, 0), (0, 0)))

    def test_pairs_of_cards_alike(self):
        for wish in (SAME, ZERO, ((1,), (1,))):
            self.unsound(one_bit(("lay", ((0, 2),)), helps=(0, 1)), wish)
            self.unsound(one_bit(("lay", ((2, 3),)), helps=(1, 1)), wish)
        self.unsound(one_bit(("lay", ((0, 1), (2, 3))), helps=(0, 0)), ((0, 0), (1, 0)))

    def test_what_is_told(self):
        self.sound(one_bit(("tell", (0,))), ZERO)
        self.sound(one_bit(("tell", (0, 1))), ((0, 1), (0, 1)))
        self.unsound(one_bit(("tell", (1,))), ZERO)
        self.unsound(one_bit(("tell", (0,))), SAME)

    def test_wrong_with_some_shuffles_only(self):
        for order in ((1, 0, 2, 3), (2, 1, 0, 3)):
            self.unsound(one_bit(("shuffle", ((0, 1, 2, 3), order), 1), LAY, helps=(0, 1)), SAME)
        self.sound(one_bit(("shuffle", ((0, 1, 2, 3), (0, 1, 3, 2)), 1), LAY, helps=(0, 1)), SAME)

    def test_lost(self):
        self.unsound(one_bit(look(2, None, 1), LAY, helps=(0,)), SAME)
        shuffle = ("shuffle", ((0, 1, 2, 3), (0, 1, 3, 2)), 1)
        self.unsound(one_bit(shuffle, look(2, 2, None), LAY, helps=(0, 1)), SAME)
        self.unsound(one_bit(look(0, 1, None), TELLS[0], TELLS[1]), SAME)
        self.unsound(one_bit(look(0, None, 2), TELLS[0], TELLS[1]), SAME)

    def test_no_node_for_a_sight_that_cannot_come(self):
        self.sound(one_bit(look(2, 1, None), LAY, helps=(0,)), SAME)
        self.sound(one_bit(look(2, None, 1), LAY, helps=(1,)), SAME)
        self.sound(one_bit(("turn", (2, 3), (((0, 1), 1),)), LAY, helps=(0, 1)), SAME)
        self.sound(one_bit(look(2, 1, 0), LAY, helps=(0,)), SAME)

    def test_moves(self):
        self.sound(one_bit(("move", (1, 0), 1), FLIP), SAME)
        self.sound(one_bit(("move", (2, 0, 1), 1), ("lay", ((1, 2),)), helps=(1,)), SAME)
        self.unsound(one_bit(("move", (2, 0, 1), 1), ("lay", ((0, 1),)), helps=(1,)), SAME)


class Silent(JudgeCase):
    def test_a_look_at_a_bit(self):
        self.unsound(one_bit(look(1, 1, 1), LAY), SAME)
        self.unsound(one_bit(("turn", (0, 1), (((0, 1), 1), ((1, 0), 1))), LAY), SAME)
        self.sound(one_bit(look(2, 1, 1), LAY, helps=(1,)), SAME)

    def test_a_shuffled_bit(self):
        swap = ("shuffle", ((0, 1), (1, 0)), 1)
        self.unsound(one_bit(swap, look(0, 2, 3), LAY, FLIP), SAME)
        both = one_bit(("shuffle", ((0, 1, 2, 3), (1, 0, 3, 2)), 1), look(2, 2, 3), LAY, FLIP, helps=(0, 1))
        self.sound(both, SAME)
        self.unsound(one_bit(("shuffle", ((0, 1, 2, 3), (1, 0, 3, 2)), 1), look(0, 2, 3), LAY, FLIP, helps=(0, 1)), SAME)

    def test_unlike_chances_of_the_same_sights(self):
        thrice = ("shuffle", ((0, 1, 2), (0, 2, 1), (1, 0, 2)), 1)
        self.unsound(one_bit(thrice, look(0, 2, 2), ("tell", (0,)), helps=(1,)), ZERO)

    def test_lays_may_not_tell_even_unlike_results(self):
        self.unsound(one_bit(look(0, 1, 2), ("lay", ((2, 3),)), ("lay", ((3, 2),)), helps=(0, 1)), SAME)

    def test_tells_may_tell_unlike_results_apart(self):
        self.sound(one_bit(look(0, 1, 2), *TELLS), SAME)
        self.sound((2, (), (look(0, 1, 2), *TELLS)), ((0,), (0,), (1,), (1,)))
        self.unsound((2, (), (look(0, 1, 2), ("tell", (0,)), look(2, 3, 4), *TELLS)), ((0,), (0,), (1,), (0,)))
        self.sound((2, (), (look(0, 1, 2), look(2, 3, 4), look(2, 5, 6), ("tell", (0, 0)), ("tell", (0, 1)),
                            ("tell", (1, 0)), ("tell", (1, 1)))), ((0, 0), (0, 1), (1, 0), (1, 1)))

    def test_tells_may_not_tell_inputs_with_one_result_apart(self):
        self.unsound(one_bit(look(0, 1, 1), ("tell", (0,))), ZERO)
        self.unsound((2, (), (look(0, 1, 2), look(2, 3, 4), look(2, 4, 3), ("tell", (0,)), ("tell", (1,)))), XOR)

    def test_xor_told_behind_a_shuffle(self):
        nodes = (("shuffle", ((0, 1, 2, 3), (1, 0, 3, 2)), 1), look(0, 2, 3), look(2, 4, 5), look(2, 5, 4), *TELLS)
        self.sound((2, (), nodes), XOR)

    def test_an_unreached_tell_makes_a_way_with_a_tell(self):
        self.unsound(one_bit(look(0, 0, 0)), SAME)
        self.unsound(one_bit(look(0, 0, 0), ("tell", (0,))), SAME, False)
        self.unsound(one_bit(look(0, 0, 0), ("tell", (0,))), ZERO)
        self.unsound(one_bit(look(0, 0, 0), LAY), SAME)


class Ends(JudgeCase):
    def test_no_end(self):
        self.unsound(one_bit(("move", (0, 1), 0)), SAME, False)
        self.unsound(one_bit(("shuffle", ((0, 1), (1, 0)), 0)), ((0, 0), (1, 1)), False)
        self.unsound(one_bit(("move", (0, 1), 1), ("move", (1, 0), 0), LAY), SAME, False)
        self.unsound(one_bit(look(2, 0, 0), LAY, helps=(0,)), SAME, False)

    def test_back_again(self):
        self.sound(*sample("again"))
        shuffle = ("shuffle", ((0, 1, 2, 3), (0, 1, 3, 2)), 1)
        self.sound(one_bit(shuffle, look(2, 0, 2), LAY, helps=(0, 1)), SAME)
        self.unsound(one_bit(shuffle, look(2, 2, 1), LAY, helps=(0, 1)), SAME, False)
        self.unsound(one_bit(shuffle, look(2, 2, 3), LAY, ("move", (0, 1, 2, 3), 3), helps=(0, 1)), SAME, False)

    def test_an_end_that_the_sight_never_leads_to(self):
        self.unsound(one_bit(look(2, 0, 1), LAY, helps=(0,)), SAME, False)
        self.sound(one_bit(look(2, 0, 1), LAY, helps=(1,)), SAME)

    def test_one_input_alone_never_ends(self):
        self.unsound(one_bit(look(0, 1, 0), ("tell", (0,))), SAME, False)
        self.unsound(one_bit(look(0, 0, 1), ("tell", (1,))), SAME, False)
        self.sound(one_bit(look(0, 1, 2), *TELLS), SAME)

    def test_a_loop_that_cannot_be_come_to(self):
        self.sound(one_bit(LAY, ("move", (0, 1), 1)), SAME)

    def test_a_wrong_end_that_cannot_be_come_to(self):
        self.sound(one_bit(LAY, FLIP), SAME)
        self.sound(one_bit(LAY, look(0, 1, None)), SAME)

    def test_counting_by_a_help_that_goes_round(self):
        order = (0, 1, 3, 4, 5, 6, 2)
        way = one_bit(("move", order, 1), look(2, 0, 2), LAY, helps=(1, 0, 0, 0, 0))
        self.sound(way, SAME)
        self.assertEqual(len(sound_table(way, SAME)), 11)


class Tables(unittest.TestCase):
    def test_again(self):
        first = sharp((0, 1, 0, 1), (1, 0, 0, 1))
        seen = sharp((0, 1, 1, 0), (1, 0, 1, 0))
        mixed = ((((0, 1, 0, 1), HALF), ((0, 1, 1, 0), HALF)), (((1, 0, 0, 1), HALF), ((1, 0, 1, 0), HALF)))
        self.assertEqual(sound_table(*sample("again")), ((0, first), (0, seen), (1, mixed), (2, first)))

    def test_double(self):
        rows = ((0, 1, 0, 1, 0, 1), (1, 0, 1, 0, 1, 0)), ((1, 0, 0, 1, 0, 1), (0, 1, 1, 0, 1, 0))
        mixed = tuple(tuple((row, HALF) for row in sorted(pair)) for pair in rows)
        table = ((0, sharp(rows[0][0], rows[1][0])), (1, mixed), (2, sharp(rows[0][0], rows[1][1])),
                 (3, sharp(rows[0][1], rows[1][0])))
        self.assertEqual(sound_table(*sample("double")), table)

    def test_five(self):
        table = sound_table(*sample("five"))
        self.assertEqual([place[0] for place in table], [0, 1, 2] + [3] * 5 + [4] * 5)
        self.assertEqual(table[0][1], sharp((0, 1, 0, 1, 1), (0, 1, 1, 0, 1), (1, 0, 0, 1, 1), (1, 0, 1, 0, 1)))
        self.assertEqual(table[1][1], sharp((1, 0, 1, 0, 1), (1, 0, 1, 1, 0), (0, 1, 1, 0, 1), (0, 1, 1, 1, 0)))
        turned = ((0, 0, 1, 1, 1), (0, 1, 1, 1, 0), (1, 0, 0, 1, 1), (1, 1, 0, 0, 1), (1, 1, 1, 0, 0))
        other = ((0, 1, 0, 1, 1), (0, 1, 1, 0, 1), (1, 0, 1, 0, 1), (1, 0, 1, 1, 0), (1, 1, 0, 1, 0))
        fifths = [tuple((row, (1, 5)) for row in rows) for rows in (other, turned)]
        self.assertEqual(table[2][1], (fifths[0], fifths[0], fifths[0], fifths[1]))
        self.assertEqual(table[3:8], tuple((3, sharp(None, None, None, row)) for row in turned))
        self.assertEqual(table[8:], tuple((4, sharp(row, row, row, None)) for row in other))

    def test_chances_are_added_and_divided(self):
        orders = ((0, 1, 2, 3, 4), (0, 1, 2, 4, 3), (0, 1, 3, 2, 4), (0, 1, 4, 2, 3))
        way = one_bit(("shuffle", orders, 1), look(2, 2, 2), LAY, helps=(0, 0, 1))

        def entry(pair, *tails):
            return tuple((pair + tail, chance) for tail, chance in tails)

        def both(*tails):
            return (entry((0, 1), *tails), entry((1, 0), *tails))

        tails = (((0, 0, 1), HALF), ((0, 1, 0), (1, 4)), ((1, 0, 0), (1, 4)))
        seen = (((0, 0, 1), TWO_THIRDS), ((0, 1, 0), THIRD))
        table = ((0, both(((0, 0, 1), WHOLE))), (1, both(*tails)), (2, both(*seen)), (2, both(((1, 0, 0), WHOLE))))
        self.assertEqual(sound_table(way, SAME), tuple(sorted(table)))
        self.assertEqual(table, tuple(sorted(table)))

    def test_none_stands_ahead(self):
        way = one_bit(look(0, 1, 1), look(0, 2, 3), *TELLS)
        zero, one = sharp((0, 1), None), sharp(None, (1, 0))
        table = ((0, sharp((0, 1), (1, 0))), (1, one), (1, zero), (2, zero), (3, one))
        self.assertEqual(sound_table(way, SAME), table)

    def test_tables_with_the_same_rows_stand_by_their_ratios_as_pairs(self):
        mix = ("shuffle", ((0, 1, 2, 3, 4), (0, 1, 2, 4, 3), (0, 1, 4, 3, 2)), 1)
        uneven = ("shuffle", ((0, 1, 3, 2, 4), (0, 1, 3, 4, 2), (0, 1, 4, 2, 3)), 4)
        way = one_bit(mix, look(2, 2, 3), ("move", (0, 1, 2, 3, 4), 4), uneven, LAY, helps=(0, 0, 1))
        rows = (((0, 1, 0, 0, 1), (0, 1, 0, 1, 0)), ((1, 0, 0, 0, 1), (1, 0, 0, 1, 0)))
        last = [place[1] for place in sound_table(way, SAME) if place[0] == 4]
        halves = tuple(((low, HALF), (high, HALF)) for low, high in rows)
        thirds = tuple(((low, THIRD), (high, TWO_THIRDS)) for low, high in rows)
        self.assertEqual(last, [halves, thirds])

    def test_one_place_alone(self):
        self.assertEqual(sound_table(one_bit(LAY), SAME), ((0, sharp((0, 1), (1, 0))),))


class Shown(unittest.TestCase):
    def setUp(self):
        self.way, self.wish = sample("again")
        self.table = sound_table(self.way, self.wish)

    def shows(self, value, way=None, wish=None):
        self.assertIs(shows_sound(way or self.way, wish or self.wish, value), True)

    def fails(self, value, way=None, wish=None):
        self.assertIs(shows_sound(way or self.way, wish or self.wish, value), False, value)

    def test_the_right_table(self):
        for name in ("again", "double", "five"):
            way, wish = sample(name)
            self.shows(sound_table(way, wish), way, wish)

    def test_another_wish(self):
        self.fails(self.table, wish=((1,), (0,)))
        self.fails(self.table, wish=((0, 0), (1, 1)))

    def test_an_unsound_way(self):
        way, wish = sample("look")
        zero, one = sharp((0, 1), None), sharp(None, (1, 0))
        first = (0, sharp((0, 1), (1, 0)))
        self.fails((first, (1, zero), (1, one)), way, wish)
        self.fails((first, (1, first[1])), way, wish)

    def test_one_place_missing(self):
        for name in ("again", "double", "five"):
            way, wish = sample(name)
            table = sound_table(way, wish)
            for k in range(len(table)):
                self.fails(table[:k] + table[k + 1:], way, wish)
        self.fails(())

    def test_sequence_and_doubles_do_not_matter(self):
        self.shows(self.table[::-1])
        self.shows(self.table[2:] + self.table[:2])
        self.shows(self.table + self.table[:1])
        self.shows(self.table * 3)

    def test_one_place_too_many_that_holds(self):
        self.shows(self.table + ((2, sharp((0, 1, 1, 0), (1, 0, 1, 0))),))
        self.shows(((2, sharp((0, 1, 1, 0), None)),) + self.table)
        self.shows(self.table + ((2, sharp(None, (1, 0, 0, 1))),))
        self.shows(self.table + ((2, sharp(None, None)),))
        self.shows(self.table + ((1, sharp((0, 1, 0, 1), (1, 0, 0, 1))),))
        mixed = (((0, 1, 0, 1), (1, 7)), ((0, 1, 1, 0), (6, 7)))
        self.shows(self.table + ((2, (mixed, None)),))

    def test_one_place_too_many_that_does_not_hold(self):
        for place in (
            (2, sharp((1, 0, 0, 1), None)),
            (2, sharp((0, 1, 0, 1), (0, 1, 0, 1))),
            (2, sharp((0, 0, 1, 1), None)),
            (1, sharp((0, 1, 0, 1), (1, 0, 1, 0))),
            (1, sharp((0, 1, 0, 1), None)),
            (0, sharp((0, 1, 0, 1), None)),
            (0, sharp(None, None)),
        ):
            self.fails(self.table + (place,))
            self.fails((place,) + self.table)

    def test_next_ones_of_places_too_many_must_be_there(self):
        alone = (0, sharp((0, 1, 0, 1), None))
        mixed = (1, ((((0, 1, 0, 1), HALF), ((0, 1, 1, 0), HALF)), None))
        more = (alone, mixed, (0, sharp((0, 1, 1, 0), None)), (2, alone[1]))
        self.shows(self.table + more)
        for k in range(4):
            self.assertIs(shows_sound(self.way, self.wish, self.table + more[:k] + more[k + 1:]), k == 0)

    def test_a_lost_sight_in_a_place_too_many(self):
        way = one_bit(look(2, 1, None), LAY, helps=(0,))
        table = sound_table(way, SAME)
        self.shows(table, way, SAME)
        self.fails(table + ((0, sharp((0, 0, 1), None)),), way, SAME)

    def test_a_place_too_many_that_never_ends(self):
        way = one_bit(LAY, ("move", (0, 1), 1))
        table = sound_table(way, SAME)
        self.shows(table, way, SAME)
        self.fails(table + ((1, sharp((0, 1), (1, 0))),), way, SAME)
        self.fails(table + ((1, sharp((0, 1), None)),), way, SAME)
        self.shows(table + ((1, sharp(None, None)),), way, SAME)

    def test_ends_count_for_each_input_along_places_where_it_can_be(self):
        way = one_bit(look(0, 1, 0), ("tell", (0,)))
        first = sharp((0, 1), (1, 0))
        places = ((0, first), (0, sharp(None, (1, 0))), (1, sharp((0, 1), None)))
        self.fails(places, way, SAME)
        good = one_bit(look(0, 1, 2), *TELLS)
        places = ((0, first), (1, sharp((0, 1), None)), (2, sharp(None, (1, 0))))
        self.shows(places, good, SAME)

    def test_a_way_that_never_ends(self):
        way = one_bit(("move", (0, 1), 0))
        self.fails(((0, sharp((0, 1), (1, 0))),), way, SAME)

    def test_values_of_quite_other_kinds(self):
        for value in ODD_VALUES + (list(self.table), dict(enumerate(self.table)), str(self.table)):
            self.fails(value)
            self.fails(self.table + (value,))
            self.fails(self.table + ((0, value),))
            if value is not None:
                self.fails(self.table + ((2, (value, None)),))
            self.fails(self.table + ((2, ((value,), None)),))
            self.fails(self.table + ((2, (((value, WHOLE),), None)),))
            self.fails(self.table + ((2, ((((0, 1, 0, 1), value),), None)),))
            if value not in (0, 1, 2) or isinstance(value, bool):
                self.fails(self.table + ((value, self.table[3][1]),))

    def test_places_of_another_form(self):
        number, table = self.table[3]
        for place in ((number,), (number, table, 0), [number, table], (3, table), (-1, table), (True, table), (2.0, table),
                      (number, list(table)), (number, table[:1]), (number, table + (None,)), (number, ()), table):
            self.fails(self.table + (place,))

    def test_entries_of_another_form(self):
        row, other = (0, 1, 0, 1), (0, 1, 1, 0)
        good = (((row, HALF), (other, HALF)), ((row, THIRD), (other, TWO_THIRDS)), ((row, WHOLE),))
        wrong = (
            (), ((other, HALF), (row, HALF)), ((row, HALF), (row, HALF)), ((row, HALF),), ((row, HALF), (other, THIRD)),
            ((row, TWO_THIRDS), (other, HALF)), ((row, (2, 4)), (other, (2, 4))), ((row, (2, 2)),), ((row, (-1, -1)),),
            ((row, (0, 1)), (other, WHOLE)), ((row, WHOLE), (other, (0, 1))), ((row, (3, 2)), (other, (-1, 2))),
            ((row, (1, 0)),), ((row, 1),), ((row, (1,)),), ((row, (1, 1, 1)),), ((row, [1, 1]),), ((row, (1.0, 1)),),
            ((row, (True, 1)),), ((row, (1, True)),), ((row, ("1", "1")),), ((row, None),), ((row[:3], WHOLE),),
            ((row + (0,), WHOLE),), (((0, 1, 0, 2), WHOLE),), (((False, 1, 0, 1), WHOLE),), (((0, 1, 0, 1.0), WHOLE),),
            ((list(row), WHOLE),), (((0, 1, 0, None), WHOLE),), ((row,),), ((row, WHOLE, 0),), [(row, WHOLE)], (row, WHOLE),
            ([row, WHOLE],), {row: WHOLE}, "entry", 0, False, ((None, WHOLE),),
        )
        for entry in good:
            self.shows(self.table + ((2, (entry, None)),))
        for entry in wrong:
            self.fails(self.table + ((2, (entry, None)),))

    def test_nothing_is_changed(self):
        before = repr((self.way, self.wish, self.table))
        shows_sound(self.way, self.wish, self.table)
        value = [1, [2], {3: 4}]
        shows_sound(self.way, self.wish, value)
        self.assertEqual(value, [1, [2], {3: 4}])
        self.assertEqual(repr((self.way, self.wish, self.table)), before)
        self.assertEqual(sound_table(self.way, self.wish), self.table)


def long_way(places):
    """A sound way with so many places: a sight of six shuffled helps names the node at which a chain is entered."""
    turned = tuple(tuple(range(2)) + tuple(2 + (k + by) % 6 for k in range(6)) for by in range(6))
    whole = tuple(range(8))
    swapped = [whole, (0, 1, 2, 3, 5, 4, 6, 7), (0, 1, 2, 3, 6, 5, 4, 7), (0, 1, 2, 7, 4, 5, 6, 3)]
    swapped += [(0, 1, 3, 2, 4, 5, 6, 7), (0, 1, 4, 3, 2, 5, 6, 7), (0, 1, 6, 3, 4, 5, 2, 7), (0, 1, 7, 3, 4, 5, 6, 2)]
    rows = {tuple((0, 1, 0, 0, 0, 1, 1, 1)[p] for p in order) for order in turned}
    sights = sorted({tuple(row[p] for p in order)[2:] for row in rows for order in swapped})
    left = places - 3
    ways = []
    for k, sight in enumerate(sights):
        length = min(21, left - (len(sights) - k - 1))
        left -= length
        ways.append((sight, 24 - length))
    assert left == 0
    nodes = (("shuffle", turned, 1), ("shuffle", tuple(swapped), 2), ("turn", (2, 3, 4, 5, 6, 7), tuple(ways)))
    nodes += tuple(("move", whole, k + 1) for k in range(3, 23)) + (LAY,)
    return (1, (0, 0, 0, 1, 1, 1), nodes)


class Limits(unittest.TestCase):
    def too_many(self, way, wish):
        for judge in (is_sound, ends_surely, sound_table):
            with self.assertRaises(TooMany) as caught:
                judge(way, wish)
            self.assertEqual(caught.exception.most, 300)

    def test_sound_ways_with_300_places_and_301(self):
        way = long_way(300)
        self.assertTrue(is_way(way))
        self.assertEqual(len(oracle.places(way)), 300)
        self.assertIs(is_sound(way, SAME), True)
        self.assertIs(ends_surely(way, SAME), True)
        self.assertEqual(set(sound_table(way, SAME)), oracle.places(way))
        way = long_way(301)
        self.assertEqual(len(oracle.places(way)), 301)
        self.too_many(way, SAME)

    def test_shows_sound_has_no_limit(self):
        way = long_way(310)
        table = tuple(oracle.places(way))
        self.assertEqual(len(table), 310)
        self.assertIs(shows_sound(way, SAME, table), True)
        self.assertIs(shows_sound(way, SAME, table[1:]), False)

    def test_ways_without_an_end_with_300_places_and_301(self):
        whole = tuple(range(8))
        round_and_round = ("move", (1, 2, 0, 4, 5, 6, 7, 3), 1)
        nodes = [("move", whole, k + 1) for k in range(20)]
        nodes[0] = round_and_round
        nodes[19] = ("move", whole, 0)
        way = one_bit(*nodes, helps=(0, 0, 0, 0, 0, 1))
        self.assertEqual(len(oracle.places(way)), 300)
        self.assertIs(ends_surely(way, SAME), False)
        self.assertIs(is_sound(way, SAME), False)
        self.assertIsNone(sound_table(way, SAME))
        nodes = [("move", whole, 1)] + [(word, order, onward + 1) for word, order, onward in nodes]
        way = one_bit(*nodes, helps=(0, 0, 0, 0, 0, 1))
        self.assertEqual(len(oracle.places(way)), 301)
        self.too_many(way, SAME)

    def test_chances_that_never_come_round(self):
        way = one_bit(("shuffle", ((0, 1, 2, 3, 4), (0, 1, 3, 4, 2)), 0), helps=(0, 1, 1))
        self.too_many(way, SAME)

    def test_a_wrong_place_near_the_beginning(self):
        way = one_bit(look(0, 1, 1), ("shuffle", ((0, 1, 2, 3, 4), (0, 1, 3, 4, 2)), 1), helps=(0, 1, 1))
        self.assertIs(is_sound(way, SAME), False)
        self.assertIsNone(ends_surely(way, SAME))
        self.assertIs(is_sound(moved_chain(24, FLIP), SAME), False)
        self.assertIs(is_sound(moved_chain(24), SAME), True)


class Oracle(unittest.TestCase):
    """Many small ways, judged by states instead of tables."""

    def test_against_states(self):
        dice = random.Random(20261119)
        counts = {}
        for _ in range(6000):
            way = small_way(dice)
            self.assertTrue(is_way(way), way)
            wish = small_wish(dice, way)
            fair = oracle.is_right(way, wish) and oracle.is_silent(way, wish)
            surely = oracle.ends(way)
            try:
                self.assertIs(ends_surely(way, wish), surely if fair else None, (way, wish))
                self.assertIs(is_sound(way, wish), fair and surely, (way, wish))
                if fair and surely:
                    table = sound_table(way, wish)
                    self.assertEqual(set(table), oracle.places(way))
                    self.assertTrue(shows_sound(way, wish, table))
                key = (fair, surely)
            except TooMany:
                key = "too many"
            counts[key] = counts.get(key, 0) + 1
        for key in ((True, True), (True, False), (False, True), (False, False)):
            self.assertGreater(counts.get(key, 0), 50, counts)
        self.assertLess(counts.get("too many", 0), 1000, counts)
