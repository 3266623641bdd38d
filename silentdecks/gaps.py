"""Gaps: the chances of two inputs held against each other, and what a watcher sees of them.

A gap is a dict of whole numbers: how much more weight a row has for one input than for the other. All that can be
seen of two inputs with unlike chances is seen by the sums of their gap's parts; the inputs themselves aren't needed.
"""

from math import gcd

from silentdecks.tables import lowest, next_of, orders_of, parted_weights, shuffled_weights
from silentdecks.ways import is_end, laid_row


def gap_of(way, one, other):
    """The gap of two inputs where the way begins."""
    ahead, behind = laid_row(way, one), laid_row(way, other)
    return {} if ahead == behind else {ahead: 1, behind: -1}


def to_turn(way, number, weights):
    """Weights led on from a node to a turn: the turn's number, the weights, how many times more they are; or None."""
    grown = 1
    # Who passes as many moves and shuffles as there are nodes passes them for ever.
    for _ in way[2]:
        if number is None or is_end(way[2][number]):
            return None
        node = way[2][number]
        if node[0] == "turn":
            return (number, weights, grown)
        orders = orders_of(node)
        weights = shuffled_weights(weights, orders)
        grown = grown * len(orders)
        number = node[2]
    return None


def first_apart(way, number, gap, many):
    """The first sights, of at most many turns from a node on, at which a gap's sum isn't 0; None if there are none."""
    ahead = [((), number, gap)]
    spans = {}
    for _ in range(many):
        behind = []
        for sights, at, rows in ahead:
            turned = to_turn(way, at, rows)
            # What is made up of earlier gaps at the same turn comes apart only behind sights at which one of them does.
            if turned is not None and takes_up(spans.setdefault(turned[0], {}), turned[1]):
                apart, onward = seen_at(way, turned, sights)
                if apart is not None:
                    return apart
                behind.extend(onward)
        ahead = behind
    return None


def seen_at(way, turned, sights):
    """The first sights at a turn at which a gap's sum isn't 0, or None; and the gaps that go on behind the turn."""
    turn = way[2][turned[0]]
    parts = parted_weights(turned[1], turn[1])
    onward = []
    for sight in sorted(parts):
        if sum(parts[sight].values()) != 0:
            return (sights + (sight,), onward)
        onward.append((sights + (sight,), next_of(turn, sight), parts[sight]))
    return (None, onward)


def takes_up(span, gap):
    """Take a gap that isn't made up of a span's gaps into the span, a gap for each lowest row; tell whether it was."""
    rest = {row: weight for row, weight in gap.items() if weight != 0}
    while rest:
        low = min(rest)
        if low not in span:
            span[low] = rest
            return True
        rest = without_row(rest, span[low], low)
    return False


def without_row(gap, other, row):
    """A gap less so much of another one, both taken as often as it needs, that a row has no weight in it."""
    shared = gcd(gap[row], other[row])
    times, taken = other[row] // shared, gap[row] // shared
    mixed = {key: weight * times for key, weight in gap.items()}
    for key, weight in other.items():
        mixed[key] = mixed.get(key, 0) - weight * taken
    return in_lowest(mixed)[1]


def in_lowest(gap):
    """By how much a gap can be divided, 0 if nothing is left of it, and the gap divided, above 0 for its lowest row."""
    rest = {row: weight for row, weight in gap.items() if weight != 0}
    times = 0
    for weight in rest.values():
        times = gcd(times, weight)
    if rest and rest[min(rest)] < 0:
        times = -times
    return (times, {row: weight // times for row, weight in rest.items()})


def distance(way, gap, many):
    """What a gap comes to: the amounts of its sums, added up over all that can be seen of the first many turns."""
    total = (0, 1)
    ahead = {(0, tuple(sorted(gap.items()))): (1, 1)}
    for left in range(many, -1, -1):
        behind = {}
        for (number, rows), share in ahead.items():
            part = {row: weight for row, weight in rows}
            turned = None if is_settled(way, number, part, left) else to_turn(way, number, part)
            if turned is None:
                total = added(total, multiplied(share, abs(sum(part.values())), 1))
            else:
                part_out(way, turned, share, behind)
        ahead = behind
    return total


def part_out(way, turned, share, behind):
    """Add the gaps behind a turn to a dict, divided as far as they can be, with the shares that they have."""
    number, gap, grown = turned
    turn = way[2][number]
    for sight, part in parted_weights(gap, turn[1]).items():
        times, rest = in_lowest(part)
        if rest:
            key = (next_of(turn, sight), tuple(sorted(rest.items())))
            behind[key] = added(behind.get(key, (0, 1)), multiplied(share, abs(times), grown))


def is_settled(way, number, gap, left):
    """Tell whether a gap's sum is all that it comes to, whatever is seen at the turns that are left."""
    whole = sum(gap.values())
    if left == 0 or abs(whole) == sum([abs(weight) for weight in gap.values()]):
        return True
    return whole == 0 and first_apart(way, number, gap, left) is None


def added(ratio, other):
    """The sum of two ratios."""
    return lowest(ratio[0] * other[1] + other[0] * ratio[1], ratio[1] * other[1])


def multiplied(ratio, times, parts):
    """So many times a ratio, divided into so many parts."""
    return lowest(ratio[0] * times, ratio[1] * parts)
