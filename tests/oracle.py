"""The promise [4] decided in another way than the package does it: by states of node and row, not by tables.

Two inputs see each row of sights with the same chance if they do so as far as the vectors of chances behind
rows of sights span something new; so no table of the package is needed, and no limit.
"""

from fractions import Fraction
from itertools import combinations, product


def first(way, one):
    row = []
    for bit in one:
        row += [0, 1] if bit == 0 else [1, 0]
    return tuple(row) + way[1]


def steps(way, state):
    """Pairs (chance, state) behind a state that is no end; a lost one is (None, row)."""
    number, row = state
    node = way[2][number]
    if node[0] == "move":
        return [(Fraction(1), (node[2], tuple(row[p] for p in node[1])))]
    if node[0] == "shuffle":
        part = Fraction(1, len(node[1]))
        return [(part, (node[2], tuple(row[p] for p in order))) for order in node[1]]
    sight = tuple(row[p] for p in node[1])
    return [(Fraction(1), (dict(node[2]).get(sight), row))]


def is_end(way, state):
    return state[0] is not None and way[2][state[0]][0] in ("lay", "tell")


def states(way, one):
    """All states that an input can be in, each with the states behind it."""
    todo = [(0, first(way, one))]
    found = {}
    while todo:
        state = todo.pop()
        if state in found:
            continue
        over = state[0] is None or is_end(way, state)
        found[state] = [] if over else [after for _, after in steps(way, state)]
        todo.extend(found[state])
    return found


def is_right(way, wish):
    for one, result in zip(product((0, 1), repeat=way[0]), wish):
        for number, row in states(way, one):
            if number is None:
                return False
            node = way[2][number]
            if node[0] == "tell" and node[1] != result:
                return False
            if node[0] == "lay":
                if any(row[a] == row[b] for a, b in node[1]) or tuple(row[a] for a, _ in node[1]) != result:
                    return False
    return True


def ends(way):
    """Whether for each input, wherever it can be, an end can still be come to."""
    for one in product((0, 1), repeat=way[0]):
        found = states(way, one)
        good = {state for state in found if is_end(way, state)}
        while True:
            more = {state for state in found if state not in good and any(after in good for after in found[state])}
            if not more:
                break
            good |= more
        if len(good) < len(found):
            return False
    return True


def to_turn(way, number, rows):
    """The turn that comes next and the chances of rows there, or None."""
    passed = set()
    while number is not None and way[2][number][0] in ("move", "shuffle"):
        if number in passed:
            return None
        passed.add(number)
        behind = {}
        for row, chance in rows.items():
            for part, (_, after) in steps(way, (number, row)):
                behind[after] = behind.get(after, 0) + chance * part
        number, rows = way[2][number][2], behind
    if number is None or way[2][number][0] != "turn":
        return None
    return number, rows


def spans(basis, vector):
    """Whether a vector is a sum of multiples of the basis; the basis takes it up if it is not."""
    rest = dict(vector)
    for pivot, other in basis:
        if rest.get(pivot):
            times = rest[pivot] / other[pivot]
            for key, worth in other.items():
                rest[key] = rest.get(key, 0) - times * worth
    rest = {key: worth for key, worth in rest.items() if worth}
    if not rest:
        return True
    basis.append((min(rest), rest))
    return False


def alike(way, one, other):
    """Whether two inputs come with the same chance to each row of sights."""
    todo = [(0, {(side, first(way, x)): Fraction(1) for side, x in enumerate((one, other))})]
    bases = {}
    while todo:
        number, vector = todo.pop(0)
        sides = []
        for side in (0, 1):
            sides.append(to_turn(way, number, {row: c for (s, row), c in vector.items() if s == side}))
        if sides[0] is None:
            continue
        turn = sides[0][0]
        vector = {(side, row): c for side in (0, 1) for row, c in sides[side][1].items()}
        if spans(bases.setdefault(turn, []), vector):
            continue
        places, ways = way[2][turn][1], dict(way[2][turn][2])
        for sight in product((0, 1), repeat=len(places)):
            seen = {(s, row): c for (s, row), c in vector.items() if tuple(row[p] for p in places) == sight}
            chances = [sum(c for (s, _), c in seen.items() if s == side) for side in (0, 1)]
            if chances[0] != chances[1]:
                return False
            if sight in ways and chances[0]:
                todo.append((ways[sight], seen))
    return True


def is_silent(way, wish):
    tells = any(node[0] == "tell" for node in way[2])
    all_inputs = list(product((0, 1), repeat=way[0]))
    for (one, result), (other, wanted) in combinations(list(zip(all_inputs, wish)), 2):
        if (not tells or result == wanted) and not alike(way, one, other):
            return False
    return True


def places(way):
    """All places that can be come to from the first one, in a set, found with fractions; none may be wrong."""
    start = tuple(((first(way, one), Fraction(1)),) for one in product((0, 1), repeat=way[0]))
    todo, found = [(0, start)], set()
    while todo:
        place = todo.pop()
        if place not in found:
            found.add(place)
            todo.extend(behind(way, place))
    return {(number, tuple(told(entry) for entry in table)) for number, table in found}


def told(entry):
    if entry is None:
        return None
    return tuple((row, (chance.numerator, chance.denominator)) for row, chance in entry)


def behind(way, place):
    number, table = place
    if is_end(way, (number, None)):
        return []
    parts = {}
    for at, entry in enumerate(table):
        for row, chance in entry or ():
            for part, (onward, after) in steps(way, (number, row)):
                sight = tuple(row[p] for p in way[2][number][1]) if way[2][number][0] == "turn" else None
                rows = parts.setdefault((onward, sight), {}).setdefault(at, {})
                rows[after] = rows.get(after, 0) + chance * part
    return [(onward, tuple(shared(rows.get(at)) for at in range(len(table)))) for (onward, _), rows in parts.items()]


def shared(rows):
    if rows is None:
        return None
    whole = sum(rows.values())
    return tuple((row, rows[row] / whole) for row in sorted(rows))
