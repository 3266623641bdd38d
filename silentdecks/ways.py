"""Ways: what a way is and what is wrong with other values, its inputs and its first rows."""

from silentdecks.errors import BadInput, BadWay, BadWish
from silentdecks.kinds import are_bits, are_orders, are_places, is_number, is_order, is_tuple, rises

MOST_BITS = 3
MOST_CARDS = 8
MOST_NODES = 24


def is_way(value):
    """Tell whether any value is a way."""
    return way_fault(value) is None


def inputs(way):
    """All inputs of a way, ascending."""
    check_way(way)
    return bit_rows(way[0])


def first_row(way, one):
    """The row that lies at first for an input."""
    check_way(way)
    check_input(way, one)
    return laid_row(way, one)


def check_way(value):
    """Raise BadWay with the first fault of a value that is no way."""
    fault = way_fault(value)
    if fault is not None:
        raise BadWay(fault[0], fault[1])


def check_input(way, value):
    """Raise BadInput for a value that is no input of the way."""
    if not are_bits(value, way[0], way[0]):
        raise BadInput()


def check_wish(bits, value):
    """Raise BadWish for a value that is no wish for so many bits."""
    many = 1 << bits
    if not is_tuple(value, many, many) or not all([are_bits(result, 1, 2) for result in value]):
        raise BadWish()
    if len({len(result) for result in value}) != 1:
        raise BadWish()


def bit_rows(bits):
    """All tuples of so many bits, ascending."""
    rows = [()]
    for _ in range(bits):
        rows = [row + (bit,) for row in rows for bit in (0, 1)]
    return tuple(rows)


def laid_row(way, one):
    """The first row of a way and an input that are already known to be right."""
    pairs = [(bit, 1 - bit) for bit in one]
    return tuple([card for pair in pairs for card in pair] + list(way[1]))


def is_end(node):
    """Tell whether a way ends at a node."""
    return node[0] in ("lay", "tell")


def has_tell(way):
    """Tell whether a node of a way is a tell, one that can't be come to counted too."""
    return any([node[0] == "tell" for node in way[2]])


def way_fault(value):
    """The first fault of a value as a pair of BadWay's word and node, None for a way."""
    if not is_tuple(value, 3, 3):
        return ("form", None)
    bits, helps, nodes = value
    word = head_fault(bits, helps)
    if word is not None:
        return (word, None)
    if not is_tuple(nodes, 1, MOST_NODES):
        return ("nodes", None)
    cards = 2 * bits + len(helps)
    for number, node in enumerate(nodes):
        if not is_node(node, cards, len(nodes)):
            return ("node", number)
    if len({(node[0], len(node[1])) for node in nodes if is_end(node)}) > 1:
        return ("ends", None)
    return None


def head_fault(bits, helps):
    """The word of BadWay for bits and helps with which no way begins, None for others."""
    if not is_number(bits, 1, MOST_BITS):
        return "bits"
    if not are_bits(helps, 0, MOST_CARDS - 2 * bits):
        return "helps"
    return None


def is_node(value, cards, nodes):
    """Tell whether a value is a node of a way with so many cards and nodes."""
    if not is_tuple(value, 2, 3) or not isinstance(value[0], str):
        return False
    if value[0] == "move":
        return is_move(value, cards, nodes)
    if value[0] == "shuffle":
        return is_shuffle(value, cards, nodes)
    if value[0] == "turn":
        return is_turn(value, cards, nodes)
    if value[0] == "lay":
        return is_lay(value, cards)
    return value[0] == "tell" and len(value) == 2 and are_bits(value[1], 1, 2)


def is_move(node, cards, nodes):
    """Tell whether a node with a move's word is one."""
    return len(node) == 3 and is_order(node[1], cards) and is_number(node[2], 0, nodes - 1)


def is_shuffle(node, cards, nodes):
    """Tell whether a node with a shuffle's word is one."""
    return len(node) == 3 and are_orders(node[1], cards) and is_number(node[2], 0, nodes - 1)


def is_turn(node, cards, nodes):
    """Tell whether a node with a turn's word is one."""
    if len(node) != 3:
        return False
    places, ways = node[1], node[2]
    if not are_places(places, cards) or len(places) == 0 or not rises(places):
        return False
    if not isinstance(ways, tuple) or len(ways) == 0:
        return False
    if not all([is_sight_way(pair, len(places), nodes) for pair in ways]):
        return False
    return rises([pair[0] for pair in ways])


def is_sight_way(value, places, nodes):
    """Tell whether a value is a pair of a sight of so many cards and a node's number."""
    return is_tuple(value, 2, 2) and are_bits(value[0], places, places) and is_number(value[1], 0, nodes - 1)


def is_lay(node, cards):
    """Tell whether a node with a lay's word is one."""
    if len(node) != 2 or not is_tuple(node[1], 1, 2):
        return False
    if not all([is_tuple(pair, 2, 2) for pair in node[1]]):
        return False
    return are_places(tuple([place for pair in node[1] for place in pair]), cards)
