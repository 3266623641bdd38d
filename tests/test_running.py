"""Promise [8]: a way done once, with coins."""

import random
import unittest
from fractions import Fraction
from itertools import product

from silentdecks.errors import BadCoins, BadInput, BadWay
from silentdecks.running import hand, shuffles_passed
from silentdecks.sights import sight_chance
from silentdecks.texts import sample
from silentdecks.ways import first_row, inputs
from tests.builders import FLIP, LAY, ODD_VALUES, Subclass, lively_way, look, moved_chain, one_bit, small_way

SWAP = ("shuffle", ((0, 1), (1, 0)), 1)


def by_steps(way, one, coins):
    """The same worked out by a plain table of steps: (sights, end, row, coins taken)."""
    row, number, sights, left = first_row(way, one), 0, (), list(coins)
    for _ in range(100):
        node = way[2][number]
        if node[0] == "tell":
            return sights, node, row, len(coins) - len(left)
        if node[0] == "lay":
            cards = [(row[a], row[b]) for a, b in node[1]]
            bits = tuple(a for a, b in cards) if all(a != b for a, b in cards) else None
            return sights, ("lay", bits), row, len(coins) - len(left)
        if node[0] == "turn":
            sights += (tuple(row[p] for p in node[1]),)
            if sights[-1] not in dict(node[2]):
                return sights, ("lost", number), row, len(coins) - len(left)
            number = dict(node[2])[sights[-1]]
            continue
        order = node[1]
        if node[0] == "shuffle":
            if not left:
                return sights, ("more", number), row, len(coins)
            order = node[1][left.pop(0) % len(node[1])]
        row, number = tuple(row[p] for p in order), node[2]
    return sights, ("long", number), row, len(coins) - len(left)


class Hands(unittest.TestCase):
    def done(self, way, one, coins, sights, end, row, taken):
        self.assertEqual(hand(way, one, coins), (sights, end, row))
        self.assertEqual(shuffles_passed(way, one, coins), taken)

    def test_lay(self):
        self.done(one_bit(LAY), (0,), (), (), ("lay", (0,)), (0, 1), 0)
        self.done(one_bit(LAY), (1,), (5,), (), ("lay", (1,)), (1, 0), 0)
        self.done(one_bit(FLIP), (1,), (), (), ("lay", (0,)), (1, 0), 0)
        two = one_bit(("lay", ((3, 2), (0, 1))), helps=(0, 1))
        self.done(two, (1,), (), (), ("lay", (1, 1)), (1, 0, 0, 1), 0)
        self.done(one_bit(("move", (1, 0), 1), LAY), (0,), (), (), ("lay", (1,)), (1, 0), 0)

    def test_lay_of_cards_alike(self):
        self.done(one_bit(("lay", ((0, 2),)), helps=(0,)), (0,), (), (), ("lay", None), (0, 1, 0), 0)
        self.done(one_bit(("lay", ((0, 2),)), helps=(0,)), (1,), (), (), ("lay", (1,)), (1, 0, 0), 0)
        two = one_bit(("lay", ((0, 1), (2, 3))), helps=(1, 1))
        self.done(two, (1,), (), (), ("lay", None), (1, 0, 1, 1), 0)

    def test_tell(self):
        self.done(one_bit(("tell", (1, 0))), (0,), (), (), ("tell", (1, 0)), (0, 1), 0)
        five = sample("five")[0]
        self.done(five, (1, 1), (0,), ((0, 1, 1, 1, 0),), ("tell", (1,)), (0, 1, 1, 1, 0), 1)
        self.done(five, (1, 1), (7, 3), ((1, 1, 0, 0, 1),), ("tell", (1,)), (1, 1, 0, 0, 1), 1)
        self.done(five, (0, 0), (839,), ((1, 1, 0, 1, 0),), ("tell", (0,)), (1, 1, 0, 1, 0), 1)

    def test_lost(self):
        way = one_bit(look(0, None, 1), ("move", (1, 0), 2), look(1, 3, None), LAY)
        self.done(way, (0,), (), ((0,),), ("lost", 0), (0, 1), 0)
        self.done(way, (1,), (), ((1,), (1,)), ("lost", 2), (0, 1), 0)

    def test_more(self):
        self.done(one_bit(SWAP, LAY), (0,), (), (), ("more", 0), (0, 1), 0)
        again = sample("again")[0]
        self.done(again, (0,), (1,), ((1,),), ("more", 0), (0, 1, 1, 0), 1)
        self.done(again, (0,), (1, 0), ((1,), (1,)), ("more", 0), (0, 1, 1, 0), 2)
        way = one_bit(("move", (1, 0), 1), ("shuffle", ((0, 1), (1, 0)), 2), ("shuffle", ((1, 0),), 3), LAY)
        self.done(way, (0,), (), (), ("more", 1), (1, 0), 0)
        self.done(way, (0,), (1,), (), ("more", 2), (0, 1), 1)
        self.done(way, (0,), (1, 4), (), ("lay", (1,)), (1, 0), 2)

    def test_a_shuffle_by_one_order_takes_a_coin(self):
        way = one_bit(("shuffle", ((1, 0),), 1), LAY)
        self.done(way, (0,), (), (), ("more", 0), (0, 1), 0)
        self.done(way, (0,), (839,), (), ("lay", (1,)), (1, 0), 1)

    def test_coins_that_are_left(self):
        again = sample("again")[0]
        self.done(again, (1,), (0,) * 100, ((0,),), ("lay", (1,)), (1, 0, 0, 1), 1)
        self.done(again, (1,), (1, 0, 1, 5, 7), ((1,), (1,), (0,)), ("lay", (1,)), (1, 0, 0, 1), 3)
        self.done(one_bit(look(0, None, 0)), (0,), (1, 2, 3), ((0,),), ("lost", 0), (0, 1), 0)

    def test_rests_name_orders(self):
        orders = ((0, 1, 2, 3), (0, 1, 3, 2), (1, 0, 2, 3))
        way = one_bit(("shuffle", orders, 1), LAY, helps=(0, 1))
        for coin in range(840):
            order = orders[coin % 3]
            row = tuple((0, 1, 0, 1)[p] for p in order)
            self.done(way, (0,), (coin,), (), ("lay", (row[0],)), row, 1)

    def test_each_shuffle_takes_the_next_coin(self):
        way = one_bit(("shuffle", ((0, 1, 2), (0, 2, 1)), 1), ("shuffle", ((0, 1, 2), (1, 0, 2), (2, 0, 1)), 2),
                      look(1, 3, 3), LAY, helps=(1,))
        for coins in product(range(2), range(3)):
            sights, end, row, taken = by_steps(way, (0,), coins)
            self.done(way, (0,), coins, sights, end, row, taken)
        self.done(way, (0,), (1, 2), ((0,),), ("lay", (1,)), (1, 0, 1), 2)

    def rounds(self, many):
        """Coins with which a shuffled help is seen as 1 so often, and as 0 by the last of them."""
        return (1,) + (0,) * (many - 2) + (1,)

    def test_99_and_100_and_101_nodes(self):
        again = sample("again")[0]
        ones = ((1,),) * 48
        # 98 nodes, and the lay is the next; then 100, and so the lay comes too late.
        self.done(again, (0,), self.rounds(49), ones + ((0,),), ("lay", (0,)), (0, 1, 0, 1), 49)
        self.done(again, (0,), self.rounds(50), ones + ((1,), (0,)), ("long", 2), (0, 1, 0, 1), 50)
        late = one_bit(("move", (0, 1, 2, 3), 1), ("shuffle", ((0, 1, 2, 3), (0, 1, 3, 2)), 2), look(2, 3, 1), LAY, helps=(0, 1))
        # 99 nodes, and the lay is the hundredth; then 101, and so the last turn comes too late.
        self.done(late, (0,), self.rounds(49), ones + ((0,),), ("lay", (0,)), (0, 1, 0, 1), 49)
        self.done(late, (0,), self.rounds(50), ones + ((1,),), ("long", 2), (0, 1, 0, 1), 50)

    def test_lost_at_the_hundredth_node_and_behind_it(self):
        shuffle = ((0, 1, 2, 3), (0, 1, 3, 2))
        way = one_bit(("shuffle", shuffle, 1), look(2, None, 0), helps=(0, 1))
        self.done(way, (0,), self.rounds(50), ((1,),) * 49 + ((0,),), ("lost", 1), (0, 1, 0, 1), 50)
        way = one_bit(("move", (0, 1, 2, 3), 1), ("shuffle", shuffle, 2), look(2, None, 1), helps=(0, 1))
        self.done(way, (0,), self.rounds(50), ((1,),) * 49, ("long", 2), (0, 1, 0, 1), 50)

    def test_a_coin_missing_at_the_hundredth_node_and_behind_it(self):
        way = one_bit(("shuffle", ((1, 0),), 1), ("shuffle", ((1, 0),), 0), LAY)
        self.done(way, (0,), (3,) * 99, (), ("more", 1), (1, 0), 99)
        self.done(way, (0,), (3,) * 100, (), ("long", 0), (0, 1), 100)

    def test_moves_for_ever(self):
        way = one_bit(("move", (1, 2, 0), 1), ("move", (0, 1, 2), 2), ("move", (0, 1, 2), 0), LAY, helps=(1,))
        # The first of three nodes is passed 34 times, and the second would be next.
        self.done(way, (0,), (), (), ("long", 1), (1, 1, 0), 0)
        self.done(moved_chain(24), (1,), (), (), ("lay", (1,)), (1, 0), 0)
        self.done(one_bit(look(0, 0, 0)), (1,), (), ((1,),) * 100, ("long", 0), (1, 0), 0)


class Coins(unittest.TestCase):
    def test_right_coins(self):
        way = one_bit(("shuffle", ((0, 1), (1, 0)), 1), LAY)
        for coins in ((0,), (839,), (0,) * 100, (839,) * 100, (Subclass(3),)):
            for taker in (hand, shuffles_passed):
                taker(way, (0,), coins)

    def test_wrong_coins(self):
        way = one_bit(("shuffle", ((0, 1), (1, 0)), 1), LAY)
        wrong = tuple(value for value in ODD_VALUES if value not in ((), (1, 2), (1, 2, 3)))
        wrong += ((840,), (-1,), (True,), (False,), (0, True), (1.0,), ("1",), (None,), (0,) * 101, [0], "0", {0: 1}, (0, 840),
                  ((0,),), (10 ** 30,), range(3), b"01")
        for value in wrong:
            for taker in (hand, shuffles_passed):
                with self.assertRaises(BadCoins, msg=value):
                    taker(way, (0,), value)
                with self.assertRaises(BadCoins, msg=value):
                    taker(one_bit(LAY), (0,), value)

    def test_what_is_wrong_first(self):
        for taker in (hand, shuffles_passed):
            self.assertRaises(BadWay, taker, (1, (), ()), (2,), None)
            self.assertRaises(BadInput, taker, one_bit(LAY), (2,), None)
            self.assertRaises(BadCoins, taker, one_bit(LAY), (1,), None)


class Random(unittest.TestCase):
    def test_against_plain_steps(self):
        dice = random.Random(8)
        kinds = {}
        for _ in range(4000):
            way = dice.choice((small_way, lively_way))(dice)
            one = dice.choice(inputs(way))
            coins = tuple(dice.randrange(840) for _ in range(dice.choice((0, 1, 3, 10, 60, 100))))
            sights, end, row, taken = by_steps(way, one, coins)
            self.assertEqual(hand(way, one, coins), (sights, end, row), (way, one, coins))
            self.assertEqual(shuffles_passed(way, one, coins), taken, (way, one, coins))
            kinds[end[0]] = kinds.get(end[0], 0) + 1
        for kind in ("lay", "tell", "lost", "more", "long"):
            self.assertGreater(kinds.get(kind, 0), 50, kinds)

    def test_all_coins_together_give_the_chances(self):
        for name in ("five", "double", "again"):
            way = sample(name)[0]
            many = len(next(node for node in way[2] if node[0] == "shuffle")[1])
            for one in inputs(way):
                seen = {}
                for coins in product(range(many), repeat=2):
                    sights = hand(way, one, coins)[0][:1]
                    seen[sights] = seen.get(sights, 0) + Fraction(1, many ** 2)
                for sights, chance in seen.items():
                    self.assertEqual(Fraction(*sight_chance(way, one, sights)), chance)
