"""Promise [9]: formulas, what they mean, and the ways that are made for them."""

import unittest
from itertools import permutations, product

from silentdecks.errors import BadFormula
from silentdecks.judging import is_sound
from silentdecks.making import is_formula, made, meaning
from silentdecks.running import hand, shuffles_passed
from silentdecks.sights import mean_shuffles, mean_turns
from silentdecks.ways import inputs, is_way
from tests.builders import ODD_VALUES, Subclass

BITS = tuple(("bit", k) for k in range(3))
X, Y, Z = BITS


def negated(times, formula):
    for _ in range(times):
        formula = ("not", formula)
    return formula


def with_nots(formula):
    """A formula with and without "not" at each place."""
    parts = [with_nots(part) for part in formula[1:]] if formula[0] != "bit" else []
    for chosen in product(*parts):
        inner = (formula[0],) + chosen if parts else formula
        yield inner
        yield ("not", inner)


def shapes():
    """All formulas without "not"."""
    yield X
    for word in ("and", "xor"):
        yield (word, X, Y)
        yield (word, Y, X)
    for (a, b, c), outer, inner in product(permutations(BITS), ("and", "xor"), ("and", "xor")):
        yield (outer, (inner, a, b), c)
        yield (outer, c, (inner, a, b))


def worth(formula, one):
    """What a formula is worth, by Python's own words."""
    if formula[0] == "bit":
        return bool(one[formula[1]])
    parts = [worth(part, one) for part in formula[1:]]
    return {"not": lambda: not parts[0], "and": lambda: parts[0] and parts[1], "xor": lambda: parts[0] != parts[1]}[formula[0]]()


def count(formula, *words):
    return 0 if formula[0] == "bit" else (formula[0] in words) + sum(count(part, *words) for part in formula[1:])


def bits_in(formula):
    return 1 if formula[0] == "bit" else sum(bits_in(part) for part in formula[1:])


class Formulas(unittest.TestCase):
    def right(self, value):
        self.assertIs(is_formula(value), True, value)
        meaning(value)
        made(value)

    def wrong(self, value):
        self.assertIs(is_formula(value), False, value)
        for taker in (meaning, made):
            with self.assertRaises(BadFormula, msg=value):
                taker(value)

    def test_each_kind(self):
        for formula in (X, ("not", X), ("and", X, Y), ("xor", X, Y), ("xor", Y, X), ("and", ("xor", Z, X), ("not", Y))):
            self.right(formula)
        self.right(("bit", Subclass(0)))

    def test_all_of_up_to_three_bits(self):
        for shape in shapes():
            self.assertIs(is_formula(shape), True)

    def test_a_bit_is_missing(self):
        for formula in (Y, Z, ("not", Y), ("and", X, Z), ("and", Y, Z), ("xor", Z, Y), ("xor", Z, ("not", X))):
            self.wrong(formula)

    def test_a_bit_stands_twice(self):
        for formula in (("and", X, X), ("xor", X, ("not", X)), ("and", X, ("xor", Y, X)), ("and", ("and", X, Y), ("xor", Z, Y)),
                        ("xor", ("xor", X, Y), ("xor", X, Y)), ("and", ("and", X, Y), ("and", Z, Z))):
            self.wrong(formula)

    def test_bits_that_are_none(self):
        for bit in (3, -1, True, False, None, 0.0, "0", (), (0,), [0], 10 ** 30):
            self.wrong(("bit", bit))
            self.wrong(("xor", X, ("bit", bit)))
        self.wrong(("xor", ("xor", X, Y), ("xor", Z, ("bit", 3))))
        self.wrong(("xor", ("xor", X, Y), ("bit", 3)))
        self.wrong(("and", ("bit", False), ("bit", True)))

    def test_eight_formulas_one_within_another_and_nine(self):
        for times in range(9):
            self.right(negated(times, X))
        self.wrong(negated(9, X))
        self.wrong(negated(10, X))
        self.right(("and", X, negated(7, Y)))
        self.wrong(("and", X, negated(8, Y)))
        self.right(("xor", negated(7, X), negated(7, Y)))
        self.wrong(("xor", negated(8, X), Y))
        self.right(negated(3, ("and", negated(2, ("xor", X, negated(1, Y))), negated(4, Z))))
        self.right(negated(4, ("and", negated(1, ("xor", X, negated(1, Y))), Z)))
        self.wrong(negated(5, ("and", negated(1, ("xor", X, negated(1, Y))), Z)))
        deep = X
        for _ in range(100000):
            deep = ("not", deep)
        self.assertIs(is_formula(deep), False)

    def test_many_formulas_that_are_one_object(self):
        wide = X
        for _ in range(60):
            wide = ("and", wide, wide)
        self.assertIs(is_formula(wide), False)

    def test_words_and_lengths(self):
        for formula in (("or", X, Y), ("And", X, Y), ("", X), ("bits", 0), ("not ", X), (None, X), (("not",), X), (b"not", X),
                        ("bit",), ("bit", 0, 0), ("bit", 0, X), ("not",), ("not", X, Y), ("and", X), ("and", X, Y, Z),
                        ("xor",), ("xor", X), ("xor", X, Y, Z), (0, X), ("nand", X, Y), ("lay", X)):
            self.wrong(formula)
            self.wrong(("not", formula))

    def test_values_of_quite_other_kinds(self):
        for value in ODD_VALUES + (["bit", 0], "bit", ("bit", "0"), {"bit": 0}, [X], (X,), list(("not", X))):
            self.wrong(value)
            self.wrong(("not", value))
            self.wrong(("and", X, value))
            self.wrong(("xor", value, X))
            self.wrong((value, X))
            if repr(value) != "0":
                self.wrong(("bit", value))


class Meanings(unittest.TestCase):
    def test_each_kind(self):
        self.assertEqual(meaning(X), ((0,), (1,)))
        self.assertEqual(meaning(("not", X)), ((1,), (0,)))
        self.assertEqual(meaning(("and", X, Y)), ((0,), (0,), (0,), (1,)))
        self.assertEqual(meaning(("xor", X, Y)), ((0,), (1,), (1,), (0,)))
        self.assertEqual(meaning(("and", X, ("not", Y))), ((0,), (0,), (1,), (0,)))
        self.assertEqual(meaning(("and", ("not", Y), X)), ((0,), (0,), (1,), (0,)))
        self.assertEqual(meaning(("and", Z, ("xor", X, Y))), ((0,), (0,), (0,), (1,), (0,), (1,), (0,), (0,)))

    def test_integers(self):
        for shape in shapes():
            for formula in (shape, ("not", shape)):
                self.assertEqual({bit.__class__ for result in meaning(formula) for bit in result}, {int})

    def test_all_of_up_to_three_bits(self):
        for shape in shapes():
            for formula in with_nots(shape):
                ones = product((0, 1), repeat=bits_in(formula))
                self.assertEqual(meaning(formula), tuple((int(worth(formula, one)),) for one in ones), formula)


class Made(unittest.TestCase):
    def test_all_of_up_to_three_bits(self):
        tried = 0
        for shape in shapes():
            for formula in with_nots(shape):
                self.keeps(formula)
                tried += 1
        self.assertEqual(tried, 2 + 4 * 8 + 48 * 32)

    def test_deep_formulas(self):
        self.keeps(negated(8, X))
        self.keeps(negated(7, X))
        self.keeps(negated(3, ("and", negated(2, ("xor", X, negated(1, Y))), negated(4, Z))))
        self.keeps(negated(6, ("and", negated(1, Y), X)))

    def keeps(self, formula):
        way = made(formula)
        self.assertIs(is_way(way), True, formula)
        self.assertIs(is_sound(way, meaning(formula)), True, formula)
        self.assertEqual(way[:2], (bits_in(formula), (0, 1) if count(formula, "and") else ()), formula)
        self.assertEqual({node[0] for node in way[2] if node[0] in ("lay", "tell")}, {"lay"})
        self.assertEqual({len(node[1]) for node in way[2] if node[0] == "lay"}, {1})
        deeds = count(formula, "and", "xor")
        for one in inputs(way):
            self.passes_just(way, one, deeds, (int(worth(formula, one)),))

    def passes_just(self, way, one, deeds, result):
        # With as many coins it comes to the end, with one less it does not: so each run has just so many shuffles.
        for coins in product((0, 1), repeat=deeds):
            sights, end, _ = hand(way, one, coins)
            self.assertEqual(end, ("lay", result))
            self.assertEqual(len(sights), deeds)
            self.assertEqual(shuffles_passed(way, one, coins), deeds)
            if deeds:
                self.assertEqual(hand(way, one, coins[1:])[1][0], "more")

    def test_means(self):
        for formula in (X, ("xor", X, Y), ("and", ("xor", Y, X), Z), ("and", Z, ("and", X, Y))):
            way = made(formula)
            for one in inputs(way):
                deeds = count(formula, "and", "xor")
                self.assertEqual((mean_turns(way, one), mean_shuffles(way, one)), ((deeds, 1), (deeds, 1)))

    def test_orders_in_shuffles_are_two(self):
        # What the coins 0 and 1 above name is then all that a shuffle can do.
        for shape in shapes():
            self.assertEqual([len(node[1]) for node in made(shape)[2] if node[0] == "shuffle"], [2] * count(shape, "and", "xor"))
