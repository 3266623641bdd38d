"""Places of a way: a node with the chances of the rows that can lie there, and how they go on."""

from math import gcd, lcm

from silentdecks.ways import bit_rows, is_end, laid_row


def lowest(numerator, denominator):
    """A ratio in lowest terms."""
    shared = gcd(numerator, denominator)
    return (numerator // shared, denominator // shared)


def first_place(way):
    """The place where a way begins."""
    return (0, tuple([((laid_row(way, one), (1, 1)),) for one in bit_rows(way[0])]))


def row_in_order(row, order):
    """A row laid in an order."""
    return tuple([row[place] for place in order])


def sight_at(row, places):
    """The cards of a row that are seen at places."""
    return tuple([row[place] for place in places])


def result_at(node, row):
    """The result of an end with a row, None if a laid pair has two cards alike."""
    if node[0] == "tell":
        return node[1]
    if any([row[left] == row[right] for left, right in node[1]]):
        return None
    return tuple([row[left] for left, _ in node[1]])


def weights_of(entry):
    """The rows of a table's entry with whole numbers in the proportion of their chances."""
    whole = 1
    for _, chance in entry:
        whole = lcm(whole, chance[1])
    return {row: chance[0] * (whole // chance[1]) for row, chance in entry}


def entry_of(weights):
    """The table's entry of rows with whole numbers in the proportion of their chances."""
    whole = sum(list(weights.values()))
    return tuple([(row, lowest(weights[row], whole)) for row in sorted(weights)])


def shuffled_weights(weights, orders):
    """Weights of rows behind a shuffle by these orders; their sum is as many times more as there are orders."""
    laid = {}
    for row, weight in weights.items():
        for order in orders:
            behind = row_in_order(row, order)
            laid[behind] = laid.get(behind, 0) + weight
    return laid


def shuffled_entry(entry, orders):
    """The entry behind a shuffle by these orders."""
    return None if entry is None else entry_of(shuffled_weights(weights_of(entry), orders))


def parted_weights(weights, places):
    """For each sight at places that rows come to, the rows with this sight and their weights."""
    parts = {}
    for row, weight in weights.items():
        sight = sight_at(row, places)
        if sight not in parts:
            parts[sight] = {}
        parts[sight][row] = weight
    return parts


def weights_by_sight(entry, places):
    """For each sight at places that an entry can come to, the rows with this sight and their weights."""
    return {} if entry is None else parted_weights(weights_of(entry), places)


def sight_chances(parts):
    """The chance of each sight, of rows and weights parted by sight."""
    sums = {sight: sum(list(parts[sight].values())) for sight in parts}
    whole = sum(list(sums.values()))
    return {sight: lowest(sums[sight], whole) for sight in sums}


def places_behind_turn(turn, table):
    """The next ones of a turn, as far as its sights have a next node."""
    parts = [weights_by_sight(entry, turn[1]) for entry in table]
    behind = []
    for sight, onward in turn[2]:
        if any([sight in part for part in parts]):
            entries = [entry_of(part[sight]) if sight in part else None for part in parts]
            behind.append((onward, tuple(entries)))
    return behind


def next_ones(way, place):
    """The next ones of a place, in a list; an end has none."""
    node, table = way[2][place[0]], place[1]
    if is_end(node):
        return []
    if node[0] == "turn":
        return places_behind_turn(node, table)
    return [(node[2], tuple([shuffled_entry(entry, orders_of(node)) for entry in table]))]


def orders_of(node):
    """The orders of a move or a shuffle; a move is a shuffle by one order."""
    return (node[1],) if node[0] == "move" else node[1]


def next_of(turn, sight):
    """The next node behind a sight of a turn, None for a sight that loses the way."""
    for known, onward in turn[2]:
        if known == sight:
            return onward
    return None


def states_behind(way, state):
    """The pairs of node and row behind one, for each order of a shuffle; none behind an end or a lost turn."""
    number, row = state
    node = way[2][number]
    if is_end(node):
        return []
    if node[0] == "turn":
        onward = next_of(node, sight_at(row, node[1]))
        return [] if onward is None else [(onward, row)]
    return [(node[2], row_in_order(row, order)) for order in orders_of(node)]


def leading_to(links, ends):
    """The numbers, in a dict, from which one of the ends can be come to; links name those behind each number."""
    back = [[] for _ in links]
    for number, link in enumerate(links):
        for after in link:
            back[after].append(number)
    todo = list(ends)
    found = {number: True for number in todo}
    while todo:
        number = todo.pop()
        for before in back[number]:
            if before not in found:
                found[before] = True
                todo.append(before)
    return found
