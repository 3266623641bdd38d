"""Promise [7]: what a watcher can guess best, and the mean numbers of turns and shuffles."""

import random
import unittest

from silentdecks.errors import BadInput, BadNumber, BadWay, TooMany
from silentdecks.sights import best_guess, mean_shuffles, mean_turns
from silentdecks.texts import sample
from silentdecks.ways import inputs, is_way
from tests import oracle, watching
from tests.builders import FLIP, LAY, NO_NUMBERS, ODD_VALUES, lively_way, look, moved_chain, one_bit, small_way

TELLS = (("tell", (0,)), ("tell", (1,)))
SWAP = ("shuffle", ((0, 1), (1, 0)), 1)
MIX = ("shuffle", ((0, 1, 2, 3), (0, 1, 3, 2)), 1)


class Guesses(unittest.TestCase):
    def guess(self, way, many, ratio, one=(0,), other=(1,)):
        self.assertEqual(best_guess(way, one, other, many), ratio)
        self.assertEqual(best_guess(way, other, one, many), ratio)

    def test_samples(self):
        for name in ("double", "again"):
            for many in range(7):
                self.guess(sample(name)[0], many, (1, 2))
        self.guess(sample("look")[0], 0, (1, 2))
        for many in range(1, 7):
            self.guess(sample("look")[0], many, (1, 1))
        five = sample("five")[0]
        for many in range(4):
            self.guess(five, many, (1, 2), (0, 0), (0, 1))
            self.guess(five, many, (1, 2), (0, 1), (1, 0))
            for one in inputs(five)[:3]:
                self.guess(five, many, (1, 1) if many else (1, 2), one, (1, 1))

    def test_an_input_with_itself(self):
        for name in ("five", "double", "again", "look"):
            way = sample(name)[0]
            for one in inputs(way):
                for many in (0, 1, 3):
                    self.guess(way, many, (1, 2), one, one)

    def test_between_none_and_all(self):
        way = one_bit(("shuffle", ((0, 1, 2), (0, 2, 1), (1, 0, 2)), 1), look(0, 2, 2), LAY, helps=(1,))
        self.guess(way, 0, (1, 2))
        self.guess(way, 1, (2, 3))
        self.guess(way, 2, (2, 3))
        way = one_bit(("shuffle", ((0, 1, 2), (0, 2, 1), (1, 0, 2)), 1), look(0, 0, 0), helps=(1,))
        for many in range(4):
            self.assertEqual(best_guess(way, (0,), (1,), many), watching.best_guess(way, (0,), (1,), many))

    def test_the_way_ends_before_just_behind_and_after_the_first_turns(self):
        way = one_bit(MIX, look(2, 2, 3), look(3, 3, 3), look(0, 4, 4), LAY, helps=(0, 1))
        # By the sight 1 the bit is seen at the second turn, by 0 at the third; then it is all over.
        self.guess(way, 1, (1, 2))
        self.guess(way, 2, (3, 4))
        self.guess(way, 3, (1, 1))
        self.guess(way, 4, (1, 1))
        self.guess(way, 6, (1, 1))

    def test_two_lay_nodes(self):
        way = one_bit(look(0, 1, 2), LAY, ("lay", ((0, 1),)))
        self.guess(way, 0, (1, 2))
        self.guess(way, 1, (1, 1))
        way = one_bit(SWAP, look(0, 2, 3), LAY, FLIP)
        self.guess(way, 1, (1, 2))

    def test_two_tell_nodes_of_the_same_result(self):
        self.guess(one_bit(look(0, 1, 2), TELLS[0], TELLS[0]), 0, (1, 2))
        self.guess(one_bit(look(0, 1, 2), TELLS[0], TELLS[0]), 1, (1, 1))
        self.guess(one_bit(SWAP, look(0, 2, 3), TELLS[0], TELLS[0]), 1, (1, 2))
        two = (2, (), (look(2, 1, 2), TELLS[0], TELLS[0]))
        self.guess(two, 1, (1, 2), (0, 0), (1, 0))
        self.guess(two, 1, (1, 1), (0, 0), (0, 1))

    def test_lost(self):
        way = one_bit(look(0, 1, None), LAY)
        self.guess(way, 0, (1, 2))
        self.guess(way, 1, (1, 1))
        way = one_bit(SWAP, look(0, 0, None))
        for many in range(5):
            self.guess(way, many, (1, 2))
        way = one_bit(look(2, 1, None), look(0, 0, 0), helps=(1,))
        for many in range(3):
            self.guess(way, many, (1, 2))

    def test_for_ever_without_a_turn(self):
        self.guess(one_bit(("move", (1, 0), 0)), 3, (1, 2))
        self.guess(one_bit(("shuffle", ((0, 1), (1, 0)), 0), LAY), 3, (1, 2))
        way = one_bit(look(0, 1, 2), ("move", (1, 0), 1), ("shuffle", ((0, 1), (1, 0)), 2))
        self.guess(way, 0, (1, 2))
        self.guess(way, 1, (1, 1))
        self.guess(one_bit(SWAP, look(0, 2, 3), ("move", (1, 0), 2), LAY), 2, (1, 2))
        self.guess(one_bit(SWAP, look(0, 2, 2), ("move", (1, 0), 2), LAY), 2, (1, 2))

    def test_up_to_six_turns(self):
        self.guess(sample("again")[0], 6, (1, 2))
        way = one_bit(("shuffle", ((0, 1, 2), (0, 2, 1), (1, 0, 2)), 1), look(0, 2, 2), LAY, helps=(1,))
        self.guess(way, 6, (2, 3))
        # The bit is seen as soon as the help is seen as 0 once, which each turn does with a chance of one half.
        way = one_bit(MIX, look(2, 2, 0), look(0, 3, 3), LAY, helps=(0, 1))
        for many in range(1, 7):
            self.guess(way, many, (2 ** many - 1, 2 ** many))

    def test_wrong_inputs(self):
        way = one_bit(LAY)
        for value in ODD_VALUES + ((0, 1), (2,), (True,)):
            self.assertRaises(BadInput, best_guess, way, value, (0,), 1)
            self.assertRaises(BadInput, best_guess, way, (0,), value, 1)
        self.assertRaises(BadWay, best_guess, (1, (), ()), None, None, 1)

    def test_other_numbers_of_turns(self):
        ways = [sample(name)[0] for name in ("five", "double", "again", "look")]
        for way in ways + [one_bit(LAY), one_bit(("move", (1, 0), 0)), one_bit(look(0, 1, None), LAY)]:
            one = inputs(way)[0]
            for other in inputs(way):
                for many in NO_NUMBERS:
                    with self.assertRaises(BadNumber, msg=(way, other, many)):
                        best_guess(way, one, other, many)
                for many in range(7):
                    best_guess(way, one, other, many)

    def test_earlier_arguments_are_looked_at_first(self):
        for many in NO_NUMBERS:
            self.assertRaises(BadWay, best_guess, (1, (), ()), (0,), (1,), many)
            self.assertRaises(BadInput, best_guess, one_bit(LAY), (2,), (1,), many)
            self.assertRaises(BadInput, best_guess, one_bit(LAY), (0,), (0, 0), many)

    def test_against_every_row_of_sights(self):
        dice = random.Random(7)
        seen = {}
        for _ in range(2000):
            way, many = dice.choice((small_way, lively_way))(dice), dice.randrange(7)
            one, other = dice.choice(inputs(way)), dice.choice(inputs(way))
            ratio = best_guess(way, one, other, many)
            self.assertEqual(ratio, watching.best_guess(way, one, other, many), (way, one, other, many))
            seen[ratio] = seen.get(ratio, 0) + 1
        self.assertGreater(sum(many for ratio, many in seen.items() if ratio not in ((1, 2), (1, 1))), 100, seen)


class Means(unittest.TestCase):
    def means(self, way, one, turns, shuffles):
        self.assertEqual(mean_turns(way, one), turns)
        self.assertEqual(mean_shuffles(way, one), shuffles)

    def test_ways_that_never_go_back(self):
        for one in inputs(sample("five")[0]):
            self.means(sample("five")[0], one, (1, 1), (1, 1))
        self.means(sample("double")[0], (0,), (1, 1), (1, 1))
        self.means(sample("look")[0], (0,), (1, 1), (0, 1))
        self.means(one_bit(LAY), (1,), (0, 1), (0, 1))
        self.means(moved_chain(24), (1,), (0, 1), (0, 1))

    def test_both_branches_count(self):
        way = one_bit(MIX, look(2, 2, 4), ("shuffle", ((0, 1, 2, 3),), 3), ("shuffle", ((0, 1, 2, 3),), 4), LAY, helps=(0, 1))
        self.means(way, (0,), (1, 1), (2, 1))
        way = one_bit(MIX, look(2, 2, 3), look(0, 3, 3), LAY, helps=(0, 1))
        self.means(way, (0,), (3, 2), (1, 1))
        way = one_bit(look(0, 1, 2), look(0, 2, 2), LAY)
        self.means(way, (0,), (2, 1), (0, 1))
        self.means(way, (1,), (1, 1), (0, 1))

    def test_ways_that_go_back(self):
        for one in ((0,), (1,)):
            self.means(sample("again")[0], one, (2, 1), (2, 1))
        way = one_bit(("shuffle", ((0, 1, 2, 3, 4), (0, 1, 3, 2, 4), (0, 1, 4, 3, 2)), 1), look(2, 0, 2), LAY, helps=(1, 0, 0))
        mean = watching.mean(way, (0,), "turn")
        self.means(way, (0,), mean, mean)
        # Two shuffled helps beside one that doesn't move: a third of the rows is right whatever lies there.
        way = one_bit(("shuffle", ((0, 1, 2, 3, 4), (0, 1, 3, 4, 2), (0, 1, 4, 2, 3)), 1), look(2, 0, 2), LAY, helps=(1, 0, 0))
        self.means(way, (0,), (3, 1), (3, 1))
        way = one_bit(("move", (0, 1, 4, 2, 3), 1), look(2, 0, 2), LAY, helps=(1, 0, 0))
        self.means(way, (1,), (3, 1), (0, 1))

    def test_lowest_terms(self):
        whole = (0, 1, 2, 3, 4, 5)
        orders = (whole, (0, 1, 3, 2, 4, 5), (0, 1, 4, 3, 2, 5), (0, 1, 5, 3, 4, 2))
        way = one_bit(("shuffle", orders, 1), look(2, 3, 2), look(2, 4, 4), LAY, LAY, helps=(0, 0, 1, 1))
        self.means(way, (0,), (3, 2), (1, 1))

    def test_being_lost_counts_as_an_end(self):
        self.means(one_bit(look(0, 1, None), LAY), (1,), (1, 1), (0, 1))
        self.means(one_bit(SWAP, look(0, 0, None)), (0,), (2, 1), (2, 1))
        self.means(one_bit(look(0, None, 1), ("move", (0, 1), 1)), (0,), (1, 1), (0, 1))

    def test_none_where_no_end_can_be_come_to(self):
        self.means(one_bit(("move", (0, 1), 0), LAY), (0,), None, None)
        way = one_bit(look(0, 1, 2), LAY, ("move", (0, 1), 2))
        self.means(way, (0,), (1, 1), (0, 1))
        self.means(way, (1,), None, None)
        way = one_bit(MIX, look(2, 2, 3), LAY, ("move", (0, 1, 2, 3), 3), helps=(0, 1))
        self.means(way, (0,), None, None)
        self.means(one_bit(look(0, 0, None)), (0,), None, None)
        self.means(one_bit(look(0, 0, None)), (1,), (1, 1), (0, 1))

    def test_wrong_inputs(self):
        for mean in (mean_turns, mean_shuffles):
            for value in ODD_VALUES + ((0, 1), (2,), (True,)):
                self.assertRaises(BadInput, mean, one_bit(LAY), value)
            self.assertRaises(BadWay, mean, (1, (), ()), None)

    def test_against_plain_elimination(self):
        dice = random.Random(77)
        counts = {}
        for _ in range(600):
            way = dice.choice((small_way, lively_way))(dice)
            one = dice.choice(inputs(way))
            for word, mean in (("turn", mean_turns), ("shuffle", mean_shuffles)):
                found = mean(way, one)
                self.assertEqual(found, watching.mean(way, one, word), (way, one))
                kind = None if found is None else found[1] > 1
                counts[kind] = counts.get(kind, 0) + 1
        self.assertGreater(min(counts.get(kind, 0) for kind in (None, True, False)), 30, counts)


def long_way(ahead):
    """A way that comes to 400 pairs of node and row behind so many moves, and half the times back at each turn."""
    whole = tuple(range(8))
    swaps = tuple(sorted([whole] + [whole[:k] + (k + 1, k) + whole[k + 2:] for k in range(3, 7)]))
    turned = tuple(sorted(whole[:2] + whole[2 + by:] + whole[2:2 + by] for by in range(6)))
    nodes = [("move", whole, k + 1) for k in range(ahead)]
    nodes += [("shuffle", swaps, ahead + 1), ("shuffle", turned, ahead + 2)]
    nodes += [("move", whole, ahead + 3 + k) for k in range(17)]
    nodes += [look(2, ahead + 20, ahead), ("move", whole, ahead + 21), LAY]
    return (1, (1, 0, 0, 0, 1, 1), tuple(nodes))


class Limits(unittest.TestCase):
    def test_just_at_the_bound(self):
        way = long_way(0)
        self.assertTrue(is_way(way))
        self.assertEqual(len(oracle.states(way, (1,))), 400)
        self.assertEqual(mean_turns(way, (1,)), (2, 1))
        self.assertEqual(mean_shuffles(way, (1,)), (4, 1))

    def test_above_the_bound(self):
        way = long_way(1)
        self.assertTrue(is_way(way))
        self.assertEqual(len(oracle.states(way, (1,))), 401)
        for mean in (mean_turns, mean_shuffles):
            with self.assertRaises(TooMany) as caught:
                mean(way, (1,))
            self.assertEqual(caught.exception.most, 400)

    def test_above_the_bound_without_an_end(self):
        way = long_way(1)
        way = (1, way[1], way[2][:-1] + (("move", tuple(range(8)), 22),))
        self.assertEqual(len(oracle.states(way, (1,))), 401)
        self.assertRaises(TooMany, mean_turns, way, (1,))
        way = long_way(0)
        way = (1, way[1], way[2][:-1] + (("move", tuple(range(8)), 21),))
        self.assertEqual(len(oracle.states(way, (1,))), 400)
        self.assertIsNone(mean_turns(way, (1,)))
