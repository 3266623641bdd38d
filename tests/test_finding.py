"""Promise [10]: short ways that are found, and tasks that have none."""

import random
import unittest
from itertools import combinations, permutations, product

from silentdecks.errors import BadNumber, BadWay, BadWish
from silentdecks.finding import fewest_deeds, way_found
from silentdecks.judging import is_sound
from silentdecks.making import made, meaning
from silentdecks.ways import is_way
from tests import searching
from tests.builders import ODD_VALUES, SAME, ZERO, Subclass

AND = ((0,), (0,), (0,), (1,))
XOR = ((0,), (1,), (1,), (0,))
BOTH = ((0, 1, 2, 3), (1, 0, 3, 2))
# The first pair is swapped together with the second and the third pair, which are exchanged.
CHOOSE = ((0, 1, 2, 3, 4, 5), (1, 0, 4, 5, 2, 3))
NO_NUMBERS = (4, -1, True, False, None, 1.0, "1", (), (1,), 10 ** 30)


class FindCase(unittest.TestCase):
    def fewest(self, bits, helps, wish, shuffles, answer):
        self.assertEqual(fewest_deeds(bits, helps, wish, shuffles), answer)
        for deeds in range(4):
            way = way_found(bits, helps, wish, shuffles, deeds)
            if answer is None or deeds < answer:
                self.assertIsNone(way)
            else:
                self.keeps(way, bits, helps, wish, shuffles, deeds)

    def keeps(self, way, bits, helps, wish, shuffles, deeds):
        self.assertIs(is_way(way), True, way)
        self.assertEqual(way[:2], (bits, helps))
        for node in way[2]:
            self.assertIn(node[0], ("shuffle", "turn", "lay"))
            if node[0] == "shuffle":
                self.assertIn(node[1], shuffles)
            if node[0] == "turn":
                self.assertEqual(len(node[1]), 1)
        self.assertLessEqual(searching.longest(way), deeds)
        self.assertIs(is_sound(way, wish), True, (way, wish))


class Deeds(FindCase):
    def test_none_needed(self):
        self.fewest(1, (), SAME, (), 0)
        self.fewest(1, (), ((1,), (0,)), (), 0)
        self.fewest(1, (0, 1), ZERO, (), 0)
        self.fewest(1, (0, 1), ((0, 0), (1, 0)), (), 0)
        self.fewest(1, (0, 1), ((0, 0), (0, 1)), (), 0)
        self.fewest(2, (), ((0, 1), (0, 0), (1, 1), (1, 0)), (), 0)
        self.fewest(3, (), tuple((c, a) for a, b, c in product((0, 1), repeat=3)), (), 0)
        self.fewest(3, (0, 1), ((1,),) * 8, (), 0)
        self.fewest(1, (0, 0, 1, 1), ((0, 1), (0, 1)), (), 0)

    def test_what_is_laid_takes_cards_that_there_are(self):
        self.fewest(1, (), ZERO, (), None)
        self.fewest(1, (0,), ZERO, (), None)
        self.fewest(1, (0, 0), ZERO, (), None)
        self.fewest(1, (0, 1), ((0, 0), (1, 1)), (), None)
        self.fewest(1, (0, 1), ((0, 1), (1, 0)), (), None)
        self.fewest(1, (0, 1), ((0, 0), (0, 0)), (), None)
        self.fewest(1, (0, 1, 0, 1), ((0, 0), (0, 0)), (), 0)

    def test_one_deed_alone_is_never_needed(self):
        # A shuffle ahead of a lay may be left out, and so may a turn of a card that all know; other turns tell a bit.
        self.fewest(1, (0, 1), SAME, (BOTH,), 0)
        self.assertIsNone(way_found(2, (), XOR, (BOTH,), 1))
        self.assertIsNone(way_found(1, (0,), ZERO, (self.round(3),), 1))
        for helps, wish, shuffles in product(((), (0,), (0, 1)), (SAME, ZERO, ((0, 1), (1, 0))), ("swap", "round")):
            orders = self.round(2 + len(helps))
            if shuffles == "swap":
                orders = (orders[0], (1, 0) + orders[0][2:])
            self.assertNotEqual(fewest_deeds(1, helps, wish, (orders,)), 1)

    def round(self, cards):
        return tuple(tuple((k + by) % cards for k in range(cards)) for by in range(cards))

    def test_two(self):
        self.fewest(2, (), XOR, (BOTH,), 2)
        self.fewest(2, (), tuple((1 - bit,) for bit, in XOR), (BOTH,), 2)
        self.fewest(2, (0, 1), XOR, (((0, 1, 2, 3, 4, 5), (1, 0, 3, 2, 4, 5)),), 2)
        self.fewest(1, (0, 1, 0, 1), ((0, 0), (1, 1)), (((0, 1, 2, 3, 4, 5), (1, 0, 3, 2, 5, 4)),), 2)
        self.fewest(2, (0, 1), AND, (CHOOSE,), 2)
        self.fewest(2, (0, 1), AND, (((0, 1, 2, 3, 4, 5), (1, 0, 3, 2, 4, 5)), CHOOSE), 2)
        self.fewest(2, (0, 1), ((0,), (1,), (1,), (1,)), (CHOOSE,), None)
        self.fewest(2, (1, 0), ((0,), (1,), (1,), (1,)), (CHOOSE,), 2)

    def test_three_with_two_turns(self):
        self.fewest(1, (0,), ZERO, (self.round(3),), 3)
        self.fewest(1, (0,), ((1,), (1,)), (self.round(3),), 3)

    def test_three_with_two_shuffles(self):
        # Once the middle cards are exchanged, the halves of the row are what has to be exchanged.
        middle, halves = ((0, 2, 1, 3),), ((0, 1, 2, 3), (2, 3, 0, 1))
        self.fewest(2, (), XOR, (middle, halves), 3)
        self.fewest(2, (), XOR, (halves, middle, halves), 3)
        self.fewest(2, (), XOR, (halves,), None)
        self.fewest(2, (), XOR, (middle,), None)
        way = way_found(2, (), XOR, (middle, halves), 3)
        self.assertEqual([node[0] for node in way[2]].count("shuffle"), 2)

    def test_four_are_too_many(self):
        first, second, halves = ((1, 0, 2, 3),), ((0, 3, 2, 1),), ((0, 1, 2, 3), (2, 3, 0, 1))
        self.fewest(2, (), XOR, (first, second, halves), self.by_all(2, (), XOR, (first, second, halves)))
        self.fewest(3, (), tuple((a ^ b ^ c,) for a, b, c in product((0, 1), repeat=3)),
                    (((0, 1, 2, 3, 4, 5), (1, 0, 3, 2, 4, 5)), ((0, 1, 2, 3, 4, 5), (0, 1, 3, 2, 5, 4))), None)

    def by_all(self, bits, helps, wish, shuffles):
        known = {}
        for deeds in range(4):
            if searching.findable(searching.begin(bits, helps), wish, shuffles, deeds, known):
                return deeds
        return None

    def test_no_way(self):
        self.fewest(2, (), AND, (BOTH,), None)
        self.fewest(2, (), AND, (), None)
        self.fewest(3, (), tuple((a & b & c,) for a, b, c in product((0, 1), repeat=3)), (), None)
        self.fewest(2, (), XOR, (((0, 1, 2, 3), (0, 1, 3, 2)),), None)
        self.fewest(2, (), XOR, (((0, 1, 2, 3),),), None)

    def test_without_shuffles_a_turn_is_no_help(self):
        self.fewest(1, (0, 1, 0, 1), ((0, 0), (1, 1)), (), None)
        self.fewest(2, (0, 1), AND, (), None)

    def test_against_every_plan(self):
        dice = random.Random(10)
        counts = {}
        for _ in range(700):
            bits, helps = dice.choice(((1, ()), (1, (0,)), (1, (0, 1)), (1, (1, 0, 0)), (2, ()), (2, (0,)), (2, (0, 1))))
            cards = 2 * bits + len(helps)
            shuffles = tuple(self.orders(dice, cards) for _ in range(dice.choice((0, 1, 1, 2))))
            many = dice.choice((1, 1, 2)) if cards < 6 else 1
            wish = tuple(tuple(dice.randrange(2) for _ in range(many)) for _ in range(1 << bits))
            if dice.random() < 0.3:
                wish = dice.choice((XOR, AND) if bits == 2 else (ZERO, SAME))
            answer = self.by_all(bits, helps, wish, shuffles)
            self.fewest(bits, helps, wish, shuffles, answer)
            counts[answer] = counts.get(answer, 0) + 1
        self.assertNotIn(1, counts)
        self.assertGreater(min(counts.get(answer, 0) for answer in (0, 2, 3, None)), 5, counts)

    def orders(self, dice, cards):
        kind = dice.randrange(4)
        if kind == 0:
            return self.round(cards)
        if kind == 1:
            return tuple(sorted({tuple(dice.sample(range(cards), cards)) for _ in range(dice.randrange(1, 4))}))
        if kind == 2 and cards == 6:
            return CHOOSE
        pairs = [k for k in range(0, cards - 1, 2) if dice.random() < 0.7]
        swapped = list(range(cards))
        for k in pairs:
            swapped[k], swapped[k + 1] = k + 1, k
        return tuple(sorted({tuple(range(cards)), tuple(swapped)}))


class Arguments(FindCase):
    def bad(self, error, *task):
        for taker in (way_found, fewest_deeds):
            with self.assertRaises(error, msg=task) as caught:
                taker(*(task if taker is way_found else task[:4]))
        return caught.exception

    def test_bits(self):
        for bits in (0, 4, -1, True, False, 1.0, "1", None, (), [1], 10 ** 30):
            bad = self.bad(BadWay, bits, None, None, None, None)
            self.assertEqual((bad.word, bad.node), ("bits", None))
        self.keeps(way_found(Subclass(1), (), SAME, (), 0), 1, (), SAME, (), 0)

    def test_helps(self):
        for helps in (None, [], [0], "", "01", {}, 0, (2,), (-1,), (True,), (0, None), (1.0,), ((0,),), (0,) * 7):
            bad = self.bad(BadWay, 1, helps, None, None, None)
            self.assertEqual((bad.word, bad.node), ("helps", None))
        self.bad(BadWay, 2, (0,) * 5, AND, (), 0)
        self.bad(BadWay, 3, (0,) * 3, ((0,),) * 8, (), 0)
        self.assertEqual(fewest_deeds(1, (0,) * 6, SAME, ()), 0)

    def test_wish(self):
        for wish in ODD_VALUES + (((0,),), ((0,),) * 3, ((0,), (0, 1)), ((), ()), ((0, 1, 0),) * 2, ((2,), (0,)), [(0,), (1,)],
                                  ((True,), (0,)), (0, 1), ((0,), None), AND):
            self.bad(BadWish, 1, (), wish, None, None)
        self.bad(BadWish, 2, (), SAME, None, None)

    def test_shuffles(self):
        whole, swapped = BOTH
        good = ((), (BOTH,), (BOTH,) * 6, (BOTH[:1],), (BOTH[1:],), (BOTH, (whole, (0, 1, 3, 2), swapped)))
        for shuffles in good:
            fewest_deeds(2, (), XOR, shuffles)
            way_found(2, (), XOR, shuffles, 3)
        wrong = ((BOTH,) * 7, BOTH, ((),), (BOTH, ()), ((whole, whole),), ((swapped, whole),), (None,), ([whole, swapped],),
                 ((whole, (0, 1, 2)),), ((whole, (0, 1, 2, 2)),), ((whole, (1, 2, 3, 4)),), ((whole, (0, 1, 2, True)),),
                 ((list(whole),),), ((whole, None),), [BOTH], {BOTH: True}, ((whole, swapped, (1, 0, 2)),), ((0, 1, 2, 3),),
                 (BOTH, ((0, 1),)), ((tuple(range(6)),),), (tuple(BOTH[:1]), "01"))
        for value in wrong + tuple(value for value in ODD_VALUES if value != ()):
            bad = self.bad(BadWay, 2, (), XOR, value, None)
            self.assertEqual((bad.word, bad.node), ("shuffles", None))

    def test_eight_orders_and_nine(self):
        orders = sorted({tuple(range(8)), *((0, 1, 2, 3) + tail for tail in self.tails())})
        self.assertEqual(fewest_deeds(1, (0,) * 6, SAME, (tuple(orders[:8]),)), 0)
        self.bad(BadWay, 1, (0,) * 6, SAME, (tuple(orders[:9]),), 0)

    def tails(self):
        return [tuple(tail) for tail in permutations(range(4, 8))]

    def test_deeds(self):
        for deeds in NO_NUMBERS:
            self.assertRaises(BadNumber, way_found, 2, (), XOR, (BOTH,), deeds)
            self.assertRaises(BadNumber, way_found, 1, (), SAME, (), deeds)
        for deeds in range(4):
            way_found(2, (), XOR, (BOTH,), deeds)

    def test_the_first_wrong_argument(self):
        for deeds in (4, None):
            self.assertRaises(BadWish, way_found, 2, (), (), (), deeds)
            self.assertRaises(BadWay, way_found, 2, (), XOR, None, deeds)
            self.assertRaises(BadNumber, way_found, 2, (), XOR, (), deeds)
        bad = self.bad(BadWay, 1, (2,), (), None, 4)
        self.assertEqual(bad.word, "helps")
        bad = self.bad(BadWay, 4, (2,), (), None, 4)
        self.assertEqual(bad.word, "bits")


class Large(FindCase):
    """Tasks with as many cards, shuffles and orders as there may be: none needs more than 4000 tables."""

    def swaps(self, masks):
        orders = []
        for mask in masks:
            order = list(range(8))
            for k in range(4):
                if mask >> k & 1:
                    order[2 * k], order[2 * k + 1] = 2 * k + 1, 2 * k
            orders.append(tuple(order))
        return tuple(sorted(orders))

    def group(self, masks):
        found = {0}
        for mask in masks:
            found |= {mask ^ other for other in found}
        return self.swaps(found)

    def test_six_shuffles_of_eight_orders_without_a_way(self):
        groups = sorted({self.group(masks) for masks in combinations(range(1, 16), 3)})
        groups = [orders for orders in groups if len(orders) == 8]
        whole = tuple(range(8))
        turned = tuple(whole[by:] + whole[:by] for by in range(8))
        wish = tuple((a & b & c,) for a, b, c in product((0, 1), repeat=3))
        for shuffles in (tuple(groups[:6]), tuple(groups[-6:]), tuple(groups[:5]) + (turned,)):
            self.assertIsNone(way_found(3, (0, 1), wish, shuffles, 3))
            self.assertIsNone(fewest_deeds(3, (0, 1), wish, shuffles))

    def test_unlike_shuffles_of_eight_orders_at_random(self):
        dice = random.Random(100)
        wish = tuple((a & b ^ c,) for a, b, c in product((0, 1), repeat=3))
        for _ in range(5):
            shuffles = []
            for _ in range(6):
                orders = {tuple(dice.sample(range(8), 8)) for _ in range(8)}
                shuffles.append(tuple(sorted(orders)))
            self.assertIsNone(fewest_deeds(3, (0, 1), wish, tuple(shuffles)))

    def test_three_bits(self):
        wish = tuple((a ^ b ^ c,) for a, b, c in product((0, 1), repeat=3))
        self.fewest(3, (), wish, (((0, 1, 2, 3, 4, 5), (1, 0, 3, 2, 5, 4)),), None)
        self.fewest(3, (0, 1), wish, (self.swaps((0, 15)),), None)
        # Two bits are seen, each swapped or not, and the third is swapped as often as both of them together.
        self.fewest(3, (), wish, (tuple(order[:6] for order in self.swaps((0, 3, 5, 6))),), 3)
        self.fewest(3, (0, 1), wish, (self.swaps((0, 3, 5, 6)),), 3)

    def test_what_is_made_is_found(self):
        for formula in (("and", ("bit", 0), ("bit", 1)), ("xor", ("bit", 1), ("not", ("bit", 0)))):
            bits, helps, nodes = made(formula)
            orders = next(node[1] for node in nodes if node[0] == "shuffle")
            self.fewest(bits, helps, meaning(formula), (orders,), 2)
