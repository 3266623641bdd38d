"""Promises [2] and [3]: what a way is, what is wrong first, inputs, first rows and wishes."""

import unittest

from silentdecks.errors import BadInput, BadWay, BadWish, TooMany
from silentdecks.finding import fewest_deeds, way_found
from silentdecks.judging import ends_surely, is_sound, shows_sound, sound_table
from silentdecks.running import hand, shuffles_passed
from silentdecks.sights import best_guess, first_leak, first_wrong, mean_shuffles, mean_turns, sight_chance
from silentdecks.texts import sample, written
from silentdecks.ways import first_row, inputs, is_way
from tests.builders import FLIP, LAY, ODD_VALUES, SAME, Subclass, moved_chain, one_bit

# Each takes a way as its first argument; what stands behind it is right for a way of one bit.
TAKERS = (
    inputs,
    written,
    lambda way: first_row(way, (0,)),
    lambda way: is_sound(way, SAME),
    lambda way: ends_surely(way, SAME),
    lambda way: sound_table(way, SAME),
    lambda way: shows_sound(way, SAME, ()),
    lambda way: sight_chance(way, (0,), ()),
    lambda way: first_leak(way, SAME, 2),
    lambda way: first_wrong(way, SAME, 2),
    lambda way: best_guess(way, (0,), (1,), 2),
    lambda way: mean_turns(way, (0,)),
    lambda way: mean_shuffles(way, (0,)),
    lambda way: hand(way, (0,), (1, 2)),
    lambda way: shuffles_passed(way, (0,), (1, 2)),
)


class WayCase(unittest.TestCase):
    def right(self, way):
        self.assertIs(is_way(way), True, way)
        for taker in TAKERS:
            try:
                taker(way)
            except BadWay as bad:
                self.fail(f"{way} is called no way: {bad}")
            except (BadInput, BadWish, TooMany):
                pass

    def wrong(self, value, word, node=None):
        self.assertIs(is_way(value), False, value)
        for taker in TAKERS:
            with self.assertRaises(BadWay, msg=value) as caught:
                taker(value)
            self.assertEqual((caught.exception.word, caught.exception.node), (word, node), value)

    def good_node(self, node, helps=(0, 1)):
        self.right(one_bit(node, node, helps=helps))

    def bad_node(self, node, helps=(0, 1)):
        self.wrong(one_bit(node, helps=helps), "node", 0)
        self.wrong(one_bit(("move", tuple(range(2 + len(helps))), 0), node, helps=helps), "node", 1)


class Heads(WayCase):
    def test_samples_are_ways(self):
        for name in ("five", "double", "again", "look"):
            self.right(sample(name)[0])

    def test_values_of_any_kind(self):
        for value in ODD_VALUES:
            if not (isinstance(value, tuple) and len(value) == 3):
                self.wrong(value, "form")
        self.wrong([1, (), (LAY,)], "form")
        self.wrong((1, ()), "form")
        self.wrong((1, (), (LAY,), 0), "form")
        self.wrong("abc", "form")
        self.wrong({1: 1, 2: 2, 3: 3}, "form")

    def test_bits(self):
        for bits in (1, 2, 3):
            self.right((bits, (), (LAY,)))
        self.right((Subclass(1), (), (LAY,)))
        for bits in (0, 4, -1, True, False, 1.0, "1", None, (), [1], 10 ** 30):
            self.wrong((bits, (), (LAY,)), "bits")

    def test_helps(self):
        for bits, helps in ((1, (0, 1, 1, 0, 0, 0)), (2, (1, 1, 1, 1)), (3, (0, 0)), (3, ())):
            self.right((bits, helps, (LAY,)))
        for bits, helps in ((1, (0,) * 7), (2, (0,) * 5), (3, (0,) * 3), (3, (1,) * 40)):
            self.wrong((bits, helps, (LAY,)), "helps")
        for helps in (None, [], [0], "", "01", {}, 0, (2,), (-1,), (True,), (0, False), (0, None), (1.0,), ((0,),), ("0",)):
            self.wrong((1, helps, (LAY,)), "helps")

    def test_how_many_nodes(self):
        self.right(moved_chain(1))
        self.right(moved_chain(24))
        self.wrong(moved_chain(25), "nodes")
        for nodes in ((), None, [], [LAY], "lay", {}, 0, {LAY}):
            self.wrong((1, (), nodes), "nodes")

    def test_the_first_fault_is_told(self):
        self.wrong((0, (2,), ()), "bits")
        self.wrong((1, (2,), ()), "helps")
        self.wrong((True, [], None), "bits")
        self.wrong((1, (2,), (None,)), "helps")
        self.wrong((1, (), (("tell", (0,)), LAY, None)), "node", 2)
        self.wrong((1, (), (None,) * 25), "nodes")
        self.wrong((1, (), (LAY, None, FLIP, None)), "node", 1)
        self.wrong((1, (), (LAY,) * 23 + (None,)), "node", 23)


class Nodes(WayCase):
    def test_values_of_any_kind(self):
        for value in ODD_VALUES + (LAY[:1], list(LAY), ("Lay", ((0, 1),)), ("end", ((0, 1),)), (["lay"], ((0, 1),)),
                                   ("told", (0,)), ("Tell", (0, 1)), ("", (1,)), ("tell ", (0,))):
            if value != ("move", (0, 1), 0):
                self.bad_node(value)
        for word in (0, None, True, b"lay", ("lay",), [], {}):
            self.bad_node((word, ((0, 1),)))
            self.bad_node((word, (0, 1, 2, 3), 0))

    def test_lengths(self):
        order = (0, 1, 2, 3)
        for node in (("move", order, 0), ("shuffle", (order,), 0), ("turn", (0,), (((0,), 0),)), LAY, ("tell", (0,))):
            self.good_node(node)
            self.bad_node(node[:-1])
            self.bad_node(node + (0,))
            self.bad_node(list(node))

    def test_move(self):
        for order in ((0, 1, 2, 3), (3, 2, 1, 0), (1, 3, 0, 2)):
            self.good_node(("move", order, 1))
        self.good_node(("move", (1, 0), 0), helps=())
        self.good_node(("move", (7, 6, 5, 4, 3, 2, 1, 0), 0), helps=(0,) * 6)
        for order in ((), (0, 1, 2), (0, 1, 2, 3, 4), (0, 1, 2, 2), (1, 2, 3, 4), (-1, 0, 1, 2), (0, True, 2, 3),
                      (0, 1, 2, 3.0), [0, 1, 2, 3], "0123", None, 0, (0, 1, 2, None), ((0, 1, 2, 3),), (0, 1, 2, [3])):
            self.bad_node(("move", order, 0))

    def test_onward_of_move_and_shuffle(self):
        order = (0, 1)
        for number in (0, 1, 2):
            self.right(one_bit(("move", order, number), ("shuffle", (order,), number), LAY))
        for number in (3, -1, True, False, 0.0, None, "0", (), (0,), [0]):
            self.wrong(one_bit(("move", order, number), LAY, LAY), "node", 0)
            self.wrong(one_bit(LAY, ("shuffle", (order,), number), LAY), "node", 1)

    def test_shuffle(self):
        a, b, c = (0, 1, 2, 3), (0, 1, 3, 2), (1, 0, 2, 3)
        for orders in ((a,), (c,), (a, b), (a, b, c)):
            self.good_node(("shuffle", orders, 0))
        for orders in ((), (a, a), (b, a), (a, c, b), (a, b, b), (a, (0, 1, 2)), (a, (0, 1, 3, 3)), (a, None), None, 0,
                       [a, b], a, (list(a),), (a, (0, 1, 3, True)), "01", {a: b}, (a, (0, 2, 1, 4))):
            self.bad_node(("shuffle", orders, 0))

    def test_eight_orders_and_nine(self):
        orders = [(0, 1) + tail for tail in ((2, 3, 4), (2, 4, 3), (3, 2, 4), (3, 4, 2), (4, 2, 3), (4, 3, 2))]
        orders += [(1, 0, 2, 3, 4), (1, 0, 2, 4, 3), (1, 0, 3, 2, 4)]
        self.good_node(("shuffle", tuple(orders[:8]), 0), helps=(0, 0, 1))
        self.bad_node(("shuffle", tuple(orders), 0), helps=(0, 0, 1))

    def test_turn(self):
        both = (((0,), 0), ((1,), 0))
        for node in (("turn", (0,), both), ("turn", (3,), both[:1]), ("turn", (0,), both[1:]),
                     ("turn", (0, 2), (((0, 1), 1), ((1, 0), 0))), ("turn", (0, 1, 2, 3), (((1, 1, 1, 1), 1),))):
            self.good_node(node)
        for places in ((), (4,), (-1,), (0, 0), (1, 0), (True,), (0.0,), [0], 0, None, "0", ((0,),), ([],), (None,)):
            self.bad_node(("turn", places, both))
        self.bad_node(("turn", (), (((), 0),)))
        self.bad_node(("turn", (2, 1), (((0, 1), 0),)))
        self.bad_node(("turn", (1, 1), (((0, 1), 0),)))

    def test_ways_of_a_turn(self):
        zero, unit = ((0,), 0), ((1,), 0)
        for ways in ((), None, [], [zero], 0, "0", (unit, zero), (zero, zero), (zero, ((0,), 1)), (zero, None), ((0,), 0),
                     (((0,),),), (((0,), 0, 0),), ([(0,), 0],), ((0, 0),), (((0, 1), 0),), (((), 0),), (((2,), 0),),
                     (((True,), 0),), (((0.0,), 0),), (([0],  0),), (("0", 0),), ((None, 0),), {zero: unit}):
            self.bad_node(("turn", (0,), ways))
        for number in (2, -1, True, False, 0.0, None, "0", (0,)):
            self.wrong(one_bit(LAY, ("turn", (0,), (((0,), 0), ((1,), number)))), "node", 1)
            self.wrong(one_bit(("turn", (0,), (((0,), number), ((1,), 0))), LAY), "node", 0)
        self.bad_node(("turn", (0, 1), (((0, 0), 0), ((1,), 0))))
        self.bad_node(("turn", (0, 1), (((1, 0), 0), ((0, 1), 0))))

    def test_lay(self):
        for pairs in (((0, 1),), ((3, 0),), ((0, 1), (2, 3)), ((3, 1), (0, 2))):
            self.good_node(("lay", pairs))
        for pairs in ((), ((0, 0),), ((0, 4),), ((-1, 0),), ((0, 1), (1, 2)), ((0, 1), (2, 0)), ((0, 1), (0, 1)), ((0,),),
                      ((0, 1, 2),), (0, 1), ([0, 1],), [(0, 1)], None, 0, "01", ("01",), ((0, True),), ((0.0, 1),),
                      ((0, 1), ()), ((0, 1), None), ((0, 1, 2, 3),), ((0, [1]),), ((0, 1), (2, 2))):
            self.bad_node(("lay", pairs))
        self.bad_node(("lay", ((0, 1), (2, 3), (4, 5))), helps=(0, 1, 0, 1))

    def test_tell(self):
        for bits in ((0,), (1,), (0, 0), (1, 0)):
            self.good_node(("tell", bits))
        for bits in ((), (0, 1, 0), (2,), (-1,), (True,), (0, False), (0.0,), [0], 0, None, "0", ((0,),), {0: 1}):
            self.bad_node(("tell", bits))


class Ends(WayCase):
    def test_all_of_one_kind(self):
        two = ("lay", ((0, 1), (2, 3)))
        zero, one = ("tell", (0,)), ("tell", (1,))
        both = ("tell", (0, 1))
        for nodes in ((LAY, FLIP), (two, two), (zero, one), (both, both), (zero,)):
            self.right((1, (0, 1), nodes))
        for nodes in ((LAY, zero), (zero, LAY), (LAY, two), (two, LAY), (zero, both), (two, both), (zero, one, both)):
            self.wrong((1, (0, 1), nodes), "ends")

    def test_a_way_without_an_end_is_a_way(self):
        self.right(one_bit(("move", (0, 1), 0)))


class Inputs(unittest.TestCase):
    def test_all_inputs(self):
        self.assertEqual(inputs((1, (), (LAY,))), ((0,), (1,)))
        self.assertEqual(inputs((2, (), (LAY,))), ((0, 0), (0, 1), (1, 0), (1, 1)))
        three = ((0, 0, 0), (0, 0, 1), (0, 1, 0), (0, 1, 1), (1, 0, 0), (1, 0, 1), (1, 1, 0), (1, 1, 1))
        self.assertEqual(inputs((3, (), (LAY,))), three)

    def test_first_rows(self):
        self.assertEqual(first_row((1, (), (LAY,)), (0,)), (0, 1))
        self.assertEqual(first_row((1, (), (LAY,)), (1,)), (1, 0))
        self.assertEqual(first_row((2, (1, 1, 0), (LAY,)), (0, 1)), (0, 1, 1, 0, 1, 1, 0))
        self.assertEqual(first_row((3, (0, 1), (LAY,)), (1, 1, 0)), (1, 0, 1, 0, 0, 1, 0, 1))

    def test_wrong_inputs(self):
        way = (2, (), (LAY,))
        for value in ODD_VALUES + ((0,), (0, 0, 0), (0, 2), (-1, 0), (True, 0), (0, False), (0.0, 1), ("0", "1"), [0, 1],
                                   "01", b"01", (0, None), (0, (1,)), ((0, 1),)):
            for taker in self.takers(way):
                with self.assertRaises(BadInput, msg=value):
                    taker(value)

    def takers(self, way):
        return (
            lambda one: first_row(way, one),
            lambda one: sight_chance(way, one, None),
            lambda one: best_guess(way, one, None, 2),
            lambda one: best_guess(way, (0,) * way[0], one, 2),
            lambda one: mean_turns(way, one),
            lambda one: mean_shuffles(way, one),
            lambda one: hand(way, one, None),
            lambda one: shuffles_passed(way, one, None),
        )

    def test_the_way_is_looked_at_first(self):
        for taker in self.takers((1, (), ())):
            with self.assertRaises(BadWay):
                taker((7,))


class Wishes(unittest.TestCase):
    def takers(self, way):
        return (
            lambda wish: is_sound(way, wish),
            lambda wish: ends_surely(way, wish),
            lambda wish: sound_table(way, wish),
            lambda wish: shows_sound(way, wish, None),
            lambda wish: first_leak(way, wish, 1),
            lambda wish: first_wrong(way, wish, 1),
            lambda wish: way_found(way[0], way[1], wish, (), 0),
            lambda wish: fewest_deeds(way[0], way[1], wish, ()),
        )

    def test_right_wishes(self):
        for way, wish in ((one_bit(LAY), ((0,), (1,))), (one_bit(LAY), ((0, 0), (1, 1))), ((2, (), (LAY,)), ((1,),) * 4),
                          ((3, (), (LAY,)), ((1, 0),) * 8)):
            for taker in self.takers(way):
                taker(wish)

    def test_wrong_wishes(self):
        wrong = (((0,),), ((0,),) * 3, ((0,), (0, 1)), ((0, 1), (0,)), ((), ()), ((0,), ()), ((0, 1, 0), (0, 1, 0)), (0, 1),
                 ((2,), (0,)), ((0,), (-1,)), ((True,), (0,)), ((0,), (False,)), ((0.0,), (1,)), [(0,), (1,)], ([0], [1]),
                 ("0", "1"), "01", ((0,), None), (None, None), {(0,): 1, (1,): 0}, ((0,),) * 4)
        for taker in self.takers(one_bit(LAY)):
            for value in ODD_VALUES + wrong:
                with self.assertRaises(BadWish, msg=value):
                    taker(value)
        for taker in self.takers((3, (), (LAY,))):
            for many in (1, 2, 4, 7, 9):
                with self.assertRaises(BadWish):
                    taker(((0,),) * many)

    def test_the_way_is_looked_at_first(self):
        for taker in self.takers((1, (2,), (LAY,))):
            with self.assertRaises(BadWay) as caught:
                taker(None)
            self.assertEqual((caught.exception.word, caught.exception.node), ("helps", None))
