"""Promise [6]: chances of sights, and the first sights that tell inputs apart or end otherwise than wished."""

import random
import unittest
from itertools import combinations

from silentdecks.errors import BadInput, BadNumber, BadSights, BadWay, BadWish, TooMany
from silentdecks.judging import is_sound
from silentdecks.sights import first_leak, first_wrong, sight_chance
from silentdecks.texts import sample
from silentdecks.ways import inputs
from tests import oracle, watching
from tests.builders import (
    FLIP, LAY, NO_NUMBERS, ODD_VALUES, SAME, ZERO, lively_way, look, moved_chain, one_bit, small_way, small_wish,
)

TELLS = (("tell", (0,)), ("tell", (1,)))
XOR = ((0,), (1,), (1,), (0,))
SWAP = ("shuffle", ((0, 1), (1, 0)), 1)


class Chances(unittest.TestCase):
    def chance(self, way, one, sights, ratio):
        self.assertEqual(sight_chance(way, one, sights), ratio)

    def test_no_sights(self):
        for name in ("five", "double", "again", "look"):
            way = sample(name)[0]
            for one in inputs(way):
                self.chance(way, one, (), (1, 1))
        self.chance(one_bit(LAY), (0,), (), (1, 1))
        self.chance(one_bit(("move", (0, 1), 0)), (0,), (), (1, 1))

    def test_samples(self):
        five = sample("five")[0]
        for one in inputs(five):
            self.chance(five, one, ((0, 1, 1, 1, 0),), (1, 5) if one == (1, 1) else (0, 1))
            self.chance(five, one, ((1, 1, 0, 1, 0),), (0, 1) if one == (1, 1) else (1, 5))
            self.chance(five, one, ((1, 1, 1, 1, 0),), (0, 1))
        double = sample("double")[0]
        self.chance(double, (0,), ((0,),), (1, 2))
        self.chance(double, (1,), ((1,),), (1, 2))
        way = sample("look")[0]
        self.chance(way, (1,), ((1,),), (1, 1))
        self.chance(way, (1,), ((0,),), (0, 1))

    def test_a_way_that_goes_back(self):
        again = sample("again")[0]
        for many in range(6):
            self.chance(again, (0,), ((1,),) * many + ((0,),), (1, 2 ** (many + 1)))
            self.chance(again, (1,), ((1,),) * (many + 1), (1, 2 ** (many + 1)))
        self.chance(again, (0,), ((0,), (0,)), (0, 1))
        self.chance(again, (0,), ((0,), (1,)), (0, 1))

    def test_sights_longer_than_the_way(self):
        self.chance(one_bit(LAY), (0,), ((0,),), (0, 1))
        self.chance(sample("look")[0], (0,), ((0,), (0,)), (0, 1))
        self.chance(sample("five")[0], (1, 1), ((0, 1, 1, 1, 0),) * 2, (0, 1))
        self.chance(one_bit(("move", (1, 0), 0), LAY), (0,), ((0,),), (0, 1))
        self.chance(one_bit(SWAP, ("move", (1, 0), 0), LAY), (0,), ((0,),), (0, 1))

    def test_sights_of_another_length_than_the_places(self):
        self.chance(sample("look")[0], (0,), ((0, 1),), (0, 1))
        self.chance(sample("five")[0], (1, 1), ((0, 1, 1, 1),), (0, 1))
        self.chance(sample("five")[0], (1, 1), ((0, 1, 1, 1, 0, 0),), (0, 1))
        self.chance(sample("again")[0], (0,), ((1,), (0, 0)), (0, 1))

    def test_lost_by_the_last_sight(self):
        way = one_bit(look(0, None, 1), LAY)
        self.chance(way, (0,), ((0,),), (1, 1))
        self.chance(way, (1,), ((0,),), (0, 1))
        self.chance(way, (0,), ((0,), (0,)), (0, 1))
        way = one_bit(SWAP, look(0, None, 0))
        self.chance(way, (0,), ((1,), (1,), (0,)), (1, 8))
        self.chance(way, (0,), ((1,), (0,), (0,)), (0, 1))

    def test_later_turns_hang_on_earlier_ones(self):
        way = one_bit(SWAP, look(0, 2, 2), look(1, 3, 3), LAY)
        self.chance(way, (0,), ((0,), (1,)), (1, 2))
        self.chance(way, (0,), ((0,), (0,)), (0, 1))

    def test_chances_of_rows_that_become_alike_are_added(self):
        orders = ((0, 1, 2, 3), (0, 1, 3, 2), (0, 2, 1, 3))
        way = one_bit(("shuffle", orders, 1), ("turn", (1, 2), (((0, 1), 2), ((1, 0), 2), ((1, 1), 2))), LAY, helps=(1, 0))
        self.chance(way, (0,), ((1, 1),), (2, 3))
        self.chance(way, (0,), ((1, 0),), (1, 3))
        self.chance(way, (1,), ((1, 0),), (1, 3))

    def test_six_sights_and_seven(self):
        again = sample("again")[0]
        self.chance(again, (0,), ((1,),) * 6, (1, 64))
        self.bad(((1,),) * 7)
        self.bad(((0, 1),) * 7)

    def test_how_many_cards_a_sight_has(self):
        self.chance(sample("again")[0], (0,), ((0,) * 8,), (0, 1))
        way = (3, (0, 1), (("turn", tuple(range(8)), (((0, 1, 0, 1, 1, 0, 0, 1), 1),)), LAY))
        self.chance(way, (0, 0, 1), ((0, 1, 0, 1, 1, 0, 0, 1),), (1, 1))
        self.chance(way, (0, 1, 1), ((0, 1, 0, 1, 1, 0, 0, 1),), (0, 1))
        for sights in (((),), ((0,) * 9,), ((0,), ()), ((0,), (1,) * 9)):
            self.bad(sights)

    def test_wrong_sights(self):
        for value in ODD_VALUES:
            if value not in ((),):
                self.bad(value)
            self.bad((value,))
            self.bad(((0,), value))
        for sights in (((True,),), ((0, False),), [(0,)], ([0],), ((2,),), ((-1,),), ((0,), (1, 2)), ((0.0,),), ("0",), "0",
                       ((None,),), (((0,),),), (0, 1), {(0,): 1}):
            self.bad(sights)

    def bad(self, sights):
        for name, one in (("again", (0,)), ("look", (1,))):
            with self.assertRaises(BadSights, msg=sights):
                sight_chance(sample(name)[0], one, sights)

    def test_what_is_wrong_first(self):
        self.assertRaises(BadWay, sight_chance, (1, (), ()), (2,), None)
        self.assertRaises(BadInput, sight_chance, one_bit(LAY), (2,), None)
        self.assertRaises(BadSights, sight_chance, one_bit(LAY), (1,), None)


class Leaks(unittest.TestCase):
    def leak(self, way, wish, many, answer):
        self.assertEqual(first_leak(way, wish, many), answer)

    def test_samples(self):
        for name in ("five", "double", "again"):
            for many in range(7):
                self.leak(*sample(name), many, None)
        self.leak(*sample("look"), 0, None)
        for many in range(1, 7):
            self.leak(*sample("look"), many, (((0,),), (0,), (1,), (1, 1), (0, 1)))

    def test_shorter_sights_come_first(self):
        # By the sight 0 the bit is seen at the second turn, by the sight 1 at the third.
        helps = (0, 1)
        mix = ("shuffle", ((0, 1, 2, 3), (0, 1, 3, 2)), 1)
        way = one_bit(mix, look(2, 2, 3), look(3, 3, 3), look(0, 4, 4), LAY, helps=helps)
        self.leak(way, SAME, 1, None)
        self.leak(way, SAME, 2, (((1,), (0,)), (0,), (1,), (1, 2), (0, 1)))
        way = one_bit(mix, look(2, 3, 2), look(3, 3, 3), look(0, 4, 4), LAY, helps=helps)
        self.leak(way, SAME, 2, (((0,), (0,)), (0,), (1,), (1, 2), (0, 1)))
        way = one_bit(mix, look(2, 2, 2), look(3, 3, 3), look(0, 4, 4), LAY, helps=helps)
        self.leak(way, SAME, 2, None)
        for many in range(3, 7):
            self.leak(way, SAME, many, (((0,), (1,), (0,)), (0,), (1,), (1, 2), (0, 1)))

    def test_sights_of_one_length_ascend(self):
        way = one_bit(("turn", (0, 1), (((0, 1), 1), ((1, 0), 1))), LAY)
        self.leak(way, SAME, 1, (((0, 1),), (0,), (1,), (1, 1), (0, 1)))
        way = one_bit(("move", (1, 0, 2), 1), look(2, 2, 2), look(0, 3, 3), LAY, helps=(1,))
        self.leak(way, SAME, 6, (((1,), (0,)), (0,), (1,), (0, 1), (1, 1)))

    def test_the_first_two_inputs(self):
        look_at = [(2, (), (look(at, 1, 1), LAY)) for at in (0, 2)]
        wish = ((0,), (0,), (1,), (1,))
        self.leak(look_at[0], wish, 1, (((0,),), (0, 0), (1, 0), (1, 1), (0, 1)))
        self.leak(look_at[1], wish, 1, (((0,),), (0, 0), (0, 1), (1, 1), (0, 1)))
        three = (3, (), (look(4, 1, 1), look(0, 2, 2), LAY))
        self.leak(three, ((0,),) * 8, 1, (((0,),), (0, 0, 0), (0, 0, 1), (1, 1), (0, 1)))

    def test_chances_between_none_and_all(self):
        orders = ((0, 1, 2), (0, 2, 1), (1, 0, 2))
        way = one_bit(("shuffle", orders, 1), look(0, 2, 2), LAY, helps=(1,))
        self.leak(way, SAME, 1, (((0,),), (0,), (1,), (2, 3), (1, 3)))

    def test_sights_that_lose_the_way(self):
        way = one_bit(look(0, 1, None), LAY)
        self.leak(way, SAME, 1, (((0,),), (0,), (1,), (1, 1), (0, 1)))
        way = one_bit(look(0, None, 1), LAY)
        self.leak(way, SAME, 1, (((0,),), (0,), (1,), (1, 1), (0, 1)))
        way = one_bit(look(2, None, 1), look(0, 2, 2), LAY, helps=(0,))
        self.leak(way, SAME, 6, None)

    def test_told_results_may_be_told_apart(self):
        way = one_bit(look(0, 1, 2), *TELLS)
        self.leak(way, SAME, 3, None)
        self.leak(way, ZERO, 3, (((0,),), (0,), (1,), (1, 1), (0, 1)))
        two = (2, (), (look(0, 1, 1), look(2, 2, 2), TELLS[0]))
        self.leak(two, ((0,), (0,), (1,), (1,)), 1, None)
        self.leak(two, ((0,), (0,), (1,), (1,)), 2, (((0,), (0,)), (0, 0), (0, 1), (1, 1), (0, 1)))
        self.leak(two, ((0,), (1,), (1,), (0,)), 2, (((0,),), (0, 0), (1, 1), (1, 1), (0, 1)))
        self.leak(two, ((0,), (1,), (1,), (1,)), 2, (((0,),), (0, 1), (1, 0), (1, 1), (0, 1)))
        self.leak(two, ((0, 0), (0, 1), (1, 0), (1, 1)), 6, None)

    def test_an_unreached_tell_makes_a_way_with_a_tell(self):
        self.leak(one_bit(look(0, 0, 0)), SAME, 2, (((0,),), (0,), (1,), (1, 1), (0, 1)))
        self.leak(one_bit(look(0, 0, 0), TELLS[0]), SAME, 2, None)

    def test_ways_that_go_back(self):
        again = one_bit(("shuffle", ((0, 1, 2, 3), (0, 1, 3, 2)), 1), look(2, 2, 0), look(0, 3, 3), LAY, helps=(0, 1))
        self.leak(again, SAME, 1, None)
        self.leak(again, SAME, 2, (((0,), (0,)), (0,), (1,), (1, 2), (0, 1)))
        turned = one_bit(("move", (0, 1, 4, 2, 3), 1), look(2, 0, 2), look(0, 3, 3), LAY, helps=(1, 0, 0))
        self.leak(turned, SAME, 3, None)
        self.leak(turned, SAME, 4, (((0,), (0,), (1,), (0,)), (0,), (1,), (1, 1), (0, 1)))

    def test_ever_the_same_without_a_turn(self):
        self.leak(one_bit(("move", (1, 0), 0)), SAME, 6, None)
        self.leak(one_bit(SWAP, ("shuffle", ((1, 0),), 0), LAY), SAME, 6, None)
        self.leak(moved_chain(24), SAME, 6, None)

    def test_the_longest_run_of_nodes_ahead_of_a_turn(self):
        moves = tuple(("move", (0, 1), k + 1) for k in range(23))
        leak = (((0,),), (0,), (1,), (1, 1), (0, 1))
        self.leak(one_bit(*moves, look(0, 0, 0)), SAME, 1, leak)
        self.leak(one_bit(*moves[:22], look(0, 23, 23), LAY), SAME, 1, leak)
        shuffles = tuple(("shuffle", ((0, 1), (1, 0)), k + 1) for k in range(22))
        way = one_bit(*shuffles, look(0, 0, 23), LAY)
        self.leak(way, SAME, 6, None)
        self.assertEqual(sight_chance(way, (0,), ((0,),) * 6), (1, 64))

    def test_many_rows_of_sights_are_no_hindrance(self):
        whole = tuple(range(8))
        turned = tuple(whole[by:] + whole[:by] for by in range(8))
        halves = sorted(tuple(int(k in ones) for k in whole) for ones in combinations(whole, 4))
        nodes = (("shuffle", turned, 1), ("turn", whole, tuple((sight, 0) for sight in halves)), TELLS[0])
        leak = first_leak((3, (0, 1), nodes), ((0,),) * 8, 6)
        self.assertEqual(len(leak[0]), 1)
        self.assertEqual(leak, watching.first_leak((3, (0, 1), nodes), ((0,),) * 8, 1))
        whole = (2, 3, 4, 5, 6, 7)
        orders = sorted({whole, (3, 2, 4, 5, 6, 7), (2, 4, 3, 5, 6, 7), (7, 3, 4, 5, 6, 2), (2, 3, 7, 6, 5, 4),
                         (4, 5, 6, 7, 2, 3), (3, 4, 5, 6, 7, 2), (2, 5, 4, 3, 7, 6)})
        sights = tuple(((a, b, c), 0) for a in (0, 1) for b in (0, 1) for c in (0, 1))
        nodes = (("shuffle", tuple((0, 1) + order for order in orders), 1), ("turn", (2, 3, 4), sights), LAY)
        self.leak((1, (0, 1, 0, 1, 1, 0), nodes), SAME, 6, None)
        turn = ("turn", (2, 3, 4), sights[:-1] + (((1, 1, 1), 2),))
        way = (1, (0, 1, 0, 1, 1, 0), (nodes[0], turn, FLIP))
        self.assertEqual(first_wrong(way, SAME, 6), (((0, 0, 1), (1, 1, 1)), (0,)))
        self.assertEqual(first_wrong(way, SAME, 6), watching.first_wrong(way, SAME, 2))

    def test_wrong_numbers(self):
        way = one_bit(look(0, 1, 1), LAY)
        for watch in (first_leak, first_wrong):
            for many in NO_NUMBERS:
                with self.assertRaises(BadNumber, msg=many):
                    watch(way, SAME, many)
            for many in range(7):
                watch(way, SAME, many)

    def test_what_is_wrong_first(self):
        for watch in (first_leak, first_wrong):
            self.assertRaises(BadWay, watch, (1, (), ()), ((0,),), 7)
            self.assertRaises(BadWish, watch, one_bit(LAY), ((0,),), 7)
            self.assertRaises(BadWish, watch, one_bit(LAY), ((0,), (0, 1)), 7)
            self.assertRaises(BadNumber, watch, one_bit(LAY), SAME, 7)


class Wrongs(unittest.TestCase):
    def wrong(self, way, wish, many, answer):
        self.assertEqual(first_wrong(way, wish, many), answer)

    def test_samples(self):
        for name in ("five", "double", "again", "look"):
            for many in range(7):
                self.wrong(*sample(name), many, None)

    def test_ends_without_a_turn(self):
        for many in (0, 1, 6):
            self.wrong(one_bit(LAY), SAME, many, None)
            self.wrong(one_bit(FLIP), SAME, many, ((), (0,)))
            self.wrong(one_bit(LAY), ZERO, many, ((), (1,)))
            self.wrong(one_bit(LAY), ((1,), (1,)), many, ((), (0,)))
            self.wrong(moved_chain(24, FLIP), SAME, many, ((), (0,)))
            self.wrong(one_bit(LAY), ((0, 0), (1, 1)), many, ((), (0,)))
            self.wrong(one_bit(("lay", ((0, 2),)), helps=(0,)), ZERO, many, ((), (0,)))
            self.wrong(one_bit(("tell", (0,))), SAME, many, ((), (1,)))
            self.wrong((2, (), (LAY,)), XOR, many, ((), (0, 1)))

    def test_with_some_shuffles_only(self):
        self.wrong(one_bit(("shuffle", ((0, 1), (1, 0)), 1), LAY), ZERO, 0, ((), (0,)))
        self.wrong(one_bit(("shuffle", ((0, 1, 2), (1, 0, 2), (2, 1, 0)), 1), LAY, helps=(0,)), ((1,), (1,)), 0, ((), (0,)))

    def test_lost_by_the_last_sight(self):
        way = one_bit(look(0, None, 1), LAY)
        self.wrong(way, SAME, 0, None)
        self.wrong(way, SAME, 1, (((0,),), (0,)))
        way = one_bit(look(0, 1, None), LAY)
        self.wrong(way, SAME, 6, (((1,),), (1,)))
        way = one_bit(SWAP, look(0, 0, None))
        self.wrong(way, SAME, 1, (((1,),), (0,)))
        way = one_bit(look(2, 1, None), look(0, 2, None), LAY, helps=(0,))
        self.wrong(way, SAME, 1, None)
        self.wrong(way, SAME, 2, (((0,), (1,)), (1,)))

    def test_shorter_sights_come_first(self):
        mix = ("shuffle", ((0, 1, 2, 3), (0, 1, 3, 2)), 1)
        way = one_bit(mix, look(2, 2, 3), look(3, 4, 4), FLIP, FLIP, helps=(0, 1))
        self.wrong(way, SAME, 0, None)
        self.wrong(way, SAME, 1, (((1,),), (0,)))
        way = one_bit(mix, look(2, 3, 2), look(3, 4, 4), LAY, FLIP, helps=(0, 1))
        self.wrong(way, SAME, 1, None)
        self.wrong(way, SAME, 2, (((1,), (0,)), (0,)))
        way = one_bit(mix, look(2, 2, None), look(3, 3, 3), FLIP, helps=(0, 1))
        self.wrong(way, SAME, 2, (((1,),), (0,)))

    def test_sights_of_one_length_ascend(self):
        way = one_bit(look(0, 1, 1), FLIP)
        self.wrong(way, SAME, 1, (((0,),), (0,)))
        self.wrong(way, ((1,), (1,)), 1, (((1,),), (1,)))
        mix = ("shuffle", ((0, 1, 2, 3), (0, 1, 3, 2)), 1)
        self.wrong(one_bit(mix, look(2, 2, None), FLIP, helps=(0, 1)), SAME, 1, (((0,),), (0,)))
        self.wrong(one_bit(mix, look(2, None, 2), FLIP, helps=(0, 1)), SAME, 1, (((0,),), (0,)))
        self.wrong(one_bit(mix, look(2, None, 2), LAY, helps=(0, 1)), SAME, 1, (((0,),), (0,)))

    def test_earlier_sights_go_before_earlier_inputs(self):
        way = one_bit(look(1, 1, 1), FLIP)
        self.wrong(way, SAME, 1, (((0,),), (1,)))
        two = (2, (), (look(3, 1, 1), LAY))
        self.wrong(two, ((1,), (1,), (0,), (0,)), 1, (((0,),), (0, 1)))

    def test_a_state_that_later_sights_come_to_sooner(self):
        # Behind the sight 1 the lay is the next node, behind 0 a shuffle stands ahead of it; still 0 comes first.
        first = ("shuffle", ((1, 0, 2), (1, 2, 0), (2, 1, 0)), 1)
        way = one_bit(first, look(0, 2, 3), ("shuffle", ((0, 1, 2), (1, 0, 2)), 3), LAY, helps=(0,))
        self.wrong(way, ZERO, 6, (((0,),), (0,)))

    def test_told_results(self):
        way = one_bit(look(0, 1, 2), *TELLS)
        self.wrong(way, SAME, 6, None)
        self.wrong(way, ZERO, 6, (((1,),), (1,)))
        self.wrong(way, ((0, 0), (0, 0)), 6, (((0,),), (0,)))

    def test_ways_that_go_back(self):
        turned = one_bit(("move", (0, 1, 4, 2, 3), 1), look(2, 0, 2), FLIP, helps=(1, 0, 0))
        self.wrong(turned, SAME, 2, None)
        for many in range(3, 7):
            self.wrong(turned, SAME, many, (((0,), (0,), (1,)), (0,)))
        again = one_bit(("shuffle", ((0, 1, 2, 3), (0, 1, 3, 2)), 1), look(2, 0, 2), FLIP, helps=(0, 1))
        self.wrong(again, SAME, 6, (((1,),), (0,)))
        self.wrong(one_bit(("move", (1, 0), 0), FLIP), SAME, 6, None)

    def test_an_end_that_is_never_come_to(self):
        self.wrong(one_bit(LAY, FLIP), SAME, 6, None)
        self.wrong(one_bit(look(2, 1, 2), LAY, FLIP, helps=(0,)), SAME, 6, None)


class Random(unittest.TestCase):
    """Many small ways, with every row of sights worked out in fractions."""

    def test_against_every_row_of_sights(self):
        dice = random.Random(6)
        counts = {}
        for _ in range(1500):
            way, many = dice.choice((small_way, lively_way))(dice), dice.choice((0, 1, 2, 3, 4))
            wish = small_wish(dice, way)
            leak, wrong = first_leak(way, wish, many), first_wrong(way, wish, many)
            self.assertEqual(leak, watching.first_leak(way, wish, many), (way, wish, many))
            self.assertEqual(wrong, watching.first_wrong(way, wish, many), (way, wish, many))
            one = dice.choice(inputs(way))
            found = watching.tree(way, one, 4)
            for sights in found:
                self.assertEqual(sight_chance(way, one, sights), watching.pair(watching.chance(found, sights)))
            key = (leak is None, wrong is None)
            counts[key] = counts.get(key, 0) + 1
        self.assertGreater(min(counts.get((a, b), 0) for a in (True, False) for b in (True, False)), 10, counts)

    def test_sound_just_if_both_are_none_and_the_way_surely_ends(self):
        dice = random.Random(66)
        counts = {True: 0, False: 0, None: 0}
        for _ in range(3000):
            way = small_way(dice)
            wish = small_wish(dice, way)
            try:
                sound = is_sound(way, wish)
            except TooMany:
                continue
            none = all(first_leak(way, wish, many) is None and first_wrong(way, wish, many) is None for many in range(7))
            surely = oracle.ends(way)
            # None of these ways needs more than six turns to come to what is not sound.
            self.assertIs(sound, none and surely, (way, wish))
            counts[sound if surely else None] += 1
        self.assertGreater(min(counts.values()), 100, counts)
