"""The promises [6] and [7] worked out in another way than the package does it: every row of sights, with fractions."""

from fractions import Fraction
from itertools import combinations, product

from tests.oracle import first, is_end, states, steps


def inputs(way):
    return list(product((0, 1), repeat=way[0]))


def settled(way, number, rows):
    """Rows led on to where it is clear what comes: ("turn", node, rows), ("end", node, rows) or ("ever", None, rows)."""
    for _ in range(len(way[2]) + 1):
        node = way[2][number]
        if node[0] == "turn":
            return "turn", number, rows
        if is_end(way, (number, None)):
            return "end", number, rows
        behind = {}
        for row, chance in rows.items():
            for part, (_, after) in steps(way, (number, row)):
                behind[after] = behind.get(after, 0) + chance * part
        number, rows = node[2], behind
    return "ever", None, rows


def tree(way, one, many):
    """All rows of sights, of at most many turns, with what is so behind each: {sights: (word, node, rows)}."""
    found = {}
    todo = [((), 0, {first(way, one): Fraction(1)})]
    while todo:
        sights, number, rows = todo.pop()
        word, at, rows = ("lost", number[0], rows) if isinstance(number, tuple) else settled(way, number, rows)
        found[sights] = (word, at, rows)
        if word == "turn" and len(sights) < many:
            seen = {}
            for row, chance in rows.items():
                seen.setdefault(tuple(row[p] for p in way[2][at][1]), {})[row] = chance
            for sight, part in seen.items():
                todo.append((sights + (sight,), dict(way[2][at][2]).get(sight, (at,)), part))
    return found


def chance(found, sights):
    return sum(found[sights][2].values()) if sights in found else Fraction(0)


def pair(worth):
    return (worth.numerator, worth.denominator)


def sequence(sights):
    return (len(sights), sights)


def result(way, number, row):
    node = way[2][number]
    if node[0] == "tell":
        return node[1]
    return None if any(row[a] == row[b] for a, b in node[1]) else tuple(row[a] for a, _ in node[1])


def first_leak(way, wish, many):
    tells = any(node[0] == "tell" for node in way[2])
    trees = {one: tree(way, one, many) for one in inputs(way)}
    kept = [(one, other) for (one, a), (other, b) in combinations(list(zip(inputs(way), wish)), 2) if not tells or a == b]
    for sights in sorted({sights for found in trees.values() for sights in found}, key=sequence):
        for one, other in kept:
            chances = chance(trees[one], sights), chance(trees[other], sights)
            if chances[0] != chances[1]:
                return (sights, one, other, pair(Fraction(chances[0])), pair(Fraction(chances[1])))
    return None


def first_wrong(way, wish, many):
    trees = {one: tree(way, one, many) for one in inputs(way)}
    for sights in sorted({sights for found in trees.values() for sights in found}, key=sequence):
        for one, wanted in zip(inputs(way), wish):
            word, number, rows = trees[one].get(sights, ("never", None, {}))
            if word == "lost" or word == "end" and any(result(way, number, row) != wanted for row in rows):
                return (sights, one)
    return None


def best_guess(way, one, other, many):
    seen = {}
    for side, x in enumerate((one, other)):
        for sights, (word, number, rows) in tree(way, x, many).items():
            if word != "turn" or len(sights) == many:
                what = ("told", way[2][number][1]) if word == "end" and way[2][number][0] == "tell" else (word, number)
                if word in ("turn", "lost"):
                    what = word
                seen.setdefault((sights, what), [Fraction(0), Fraction(0)])[side] += sum(rows.values())
    return pair(sum((max(both) for both in seen.values()), Fraction(0)) / 2)


def mean(way, one, word):
    """The mean number of nodes of a word's kind that are passed, by plain elimination."""
    found = states(way, one)
    if any(not can_end(found, state) for state in found):
        return None
    unknown = [state for state in found if found[state]]
    number = {state: k for k, state in enumerate(unknown)}
    rows = []
    for state in unknown:
        row = [Fraction(0)] * (len(unknown) + 1)
        row[number[state]] += 1
        row[-1] = Fraction(int(way[2][state[0]][0] == word))
        for part, after in steps(way, state):
            if after in number:
                row[number[after]] -= part
        rows.append(row)
    for k in range(len(unknown)):
        at = next(j for j in range(k, len(unknown)) if rows[j][k])
        rows[k], rows[at] = rows[at], rows[k]
        rows[k] = [worth / rows[k][k] for worth in rows[k]]
        for j, row in enumerate(rows):
            if j != k and row[k]:
                rows[j] = [mine - row[k] * his for mine, his in zip(row, rows[k])]
    start = (0, first(way, one))
    return pair(rows[number[start]][-1]) if start in number else (0, 1)


def can_end(found, state):
    """Whether a state without one behind it, an end or a lost one, can be come to."""
    todo, passed = [state], set()
    while todo:
        at = todo.pop()
        if not found[at]:
            return True
        if at not in passed:
            passed.add(at)
            todo.extend(found[at])
    return False
