"""Making: formulas, what they mean, and sound ways for them."""

from silentdecks.errors import BadFormula
from silentdecks.kinds import is_number, is_tuple
from silentdecks.ways import MOST_BITS, bit_rows

MOST_WITHIN = 8
MANY_PARTS = {"not": 1, "and": 2, "xor": 2}


def is_formula(value):
    """Tell whether any value is a formula."""
    bits = bits_within(value, MOST_WITHIN)
    return bits is not None and sorted(bits) == list(range(len(bits)))


def meaning(formula):
    """The wish of a formula: for each input the tuple of its one bit."""
    check_formula(formula)
    bits = len(bits_within(formula, MOST_WITHIN))
    return tuple([(bit_of(formula, one),) for one in bit_rows(bits)])


def made(formula):
    """A sound way for a formula, with one shuffle and one turn for each "and" and "xor"."""
    check_formula(formula)
    bits = len(bits_within(formula, MOST_WITHIN))
    helps = (0, 1) if has_and(formula) else ()
    making = Making(2 * bits + len(helps))
    pair = making.lead(formula)
    return (bits, helps, tuple(making.nodes + [("lay", (pair,))]))


def check_formula(value):
    """Raise BadFormula for a value that is no formula."""
    if not is_formula(value):
        raise BadFormula()


def bits_within(value, deep):
    """The bits that stand in a value, None if it is no formula with at most so many one within another below it."""
    if deep < 0 or not is_tuple(value, 2, 3) or not isinstance(value[0], str):
        return None
    if value[0] == "bit":
        return [value[1]] if len(value) == 2 and is_number(value[1], 0, MOST_BITS - 1) else None
    if len(value) - 1 != MANY_PARTS.get(value[0]):
        return None
    parts = [bits_within(part, deep - 1) for part in value[1:]]
    return None if None in parts else [bit for part in parts for bit in part]


def bit_of(formula, one):
    """The bit of a formula for an input."""
    if formula[0] == "bit":
        return one[formula[1]]
    bits = [bit_of(part, one) for part in formula[1:]]
    if formula[0] == "not":
        return 1 - bits[0]
    return bits[0] & bits[1] if formula[0] == "and" else bits[0] ^ bits[1]


def has_and(formula):
    """Tell whether an "and" stands in a formula."""
    if formula[0] == "bit":
        return False
    return formula[0] == "and" or any([has_and(part) for part in formula[1:]])


class Making:
    """The nodes of a way as far as it is made, and the pair that lies as 0 behind them where there are helps."""

    def __init__(self, cards):
        self.cards = cards
        self.zero = (cards - 2, cards - 1)
        self.nodes = []

    def lead(self, formula):
        """Add nodes that lead to a formula's bit, and return the pair of places at which it lies then."""
        if formula[0] == "bit":
            return (2 * formula[1], 2 * formula[1] + 1)
        first = self.lead(formula[1])
        if formula[0] == "not":
            return (first[1], first[0])
        second = self.lead(formula[2])
        if formula[0] == "xor":
            self.turn_shuffled(first, (second,))
            return second
        # The first bit, whether shuffled or not, chooses between what lies as 0 and what lies as the second bit.
        chosen = self.zero
        self.turn_shuffled(first, ((chosen[0], second[0]), (chosen[1], second[1])))
        self.zero = first
        return chosen

    def turn_shuffled(self, first, swaps):
        """Exchange the cards of a pair and those of the swaps, or none; then see the pair, and lay it as 0 again."""
        places = list(range(self.cards))
        for left, right in (first,) + swaps:
            places[left], places[right] = right, left
        whole, swapped = tuple(range(self.cards)), tuple(places)
        at = len(self.nodes)
        self.nodes.append(("shuffle", (whole, swapped), at + 1))
        self.nodes.append(("turn", (first[0],), (((0,), at + 3), ((1,), at + 2))))
        # Who sees a 1 exchanges the same cards once more, so that all goes on as behind a 0.
        self.nodes.append(("move", swapped, at + 3))
