"""The promise [10] decided in another way than the package does it: every plan is tried, with fractions.

A table here is a tuple of dicts' items: for each input the rows and their chances. No plan is left out: a shuffle may be
the last deed, and a card that all know may be turned.
"""

from fractions import Fraction
from itertools import permutations, product

from tests.oracle import first


def begin(bits, helps):
    return tuple(((first((bits, helps, ()), one), Fraction(1)),) for one in product((0, 1), repeat=bits))


def laid(table, wish):
    """Whether some lay has each input's result."""
    cards = len(table[0][0][0])
    for places in permutations(range(cards), 2 * len(wish[0])):
        if all(row[places[2 * k]] == bit and row[places[2 * k + 1]] == 1 - bit
               for result, entry in zip(wish, table) for row, _ in entry for k, bit in enumerate(result)):
            return True
    return False


def shuffled(table, orders):
    behind = []
    for entry in table:
        rows = {}
        for row, chance in entry:
            for order in orders:
                after = tuple(row[p] for p in order)
                rows[after] = rows.get(after, 0) + chance / len(orders)
        behind.append(tuple(sorted(rows.items())))
    return tuple(behind)


def seen(table, place):
    """The tables behind a turn, or None if it tells inputs apart."""
    chances = {tuple(sum(chance for row, chance in entry if row[place] == card) for card in (0, 1)) for entry in table}
    if len(chances) > 1:
        return None
    behind = []
    for card, whole in enumerate(chances.pop()):
        if whole:
            behind.append(tuple(tuple((row, chance / whole) for row, chance in entry if row[place] == card) for entry in table))
    return behind


def findable(table, wish, shuffles, deeds, known):
    key = (table, deeds)
    if key not in known:
        known[key] = laid(table, wish) or deeds > 0 and (
            any(findable(shuffled(table, orders), wish, shuffles, deeds - 1, known) for orders in shuffles)
            or any(all(findable(part, wish, shuffles, deeds - 1, known) for part in parts)
                   for parts in (seen(table, place) for place in range(len(table[0][0][0]))) if parts is not None))
    return known[key]


def longest(way, number=0):
    """The most shuffles and turns one behind another; fails for a way that goes back."""
    assert number is not None
    node = way[2][number]
    if node[0] == "shuffle":
        return 1 + longest(way, node[2])
    if node[0] == "turn":
        return 1 + max(longest(way, onward) for _, onward in node[2])
    assert node[0] == "lay"
    return 0
