"""Texts: ways written down and read again, and sample ways."""

from silentdecks.errors import BadNumber, BadText
from silentdecks.ways import MOST_NODES, check_way, head_fault, way_fault

FIGURES = "0123456789"


def written(way):
    """The text of a way."""
    check_way(way)
    bits, helps, nodes = way
    cards = figures(helps) if helps else "-"
    lines = [f"bits {bits} helps {cards}"] + [node_line(node) for node in nodes]
    return "".join([line + "\n" for line in lines])


def read_way(text):
    """The way of a text."""
    lines = ended_lines(text)
    head = read_head(lines[0])
    if head is None:
        raise BadText(0)
    if not 2 <= len(lines) <= MOST_NODES + 1:
        raise BadText(len(lines))
    nodes = [read_node(line) for line in lines[1:]]
    if None in nodes:
        raise BadText(nodes.index(None) + 1)
    way = (head[0], head[1], tuple(nodes))
    fault = way_fault(way)
    if fault is not None:
        # Only a wrong node has a line; ends of two kinds are seen when all lines are read.
        raise BadText(len(lines) if fault[1] is None else fault[1] + 1)
    return way


def sample(name):
    """The sample way of a name and the wish for which it stands."""
    if not isinstance(name, str):
        raise BadNumber()
    if name == "five":
        return five_cards()
    if name == "double":
        return double_bit()
    if name == "again":
        return again_and_again()
    if name == "look":
        return open_look()
    raise BadNumber()


def node_line(node):
    """The line of a node, without its newline."""
    word, told = node[0], node[1]
    if word == "move":
        return f"move {spaced(told)} to {node[2]}"
    if word == "shuffle":
        return f"shuffle {slashed(told)} to {node[2]}"
    if word == "turn":
        ways = ", ".join([f"{figures(sight)} to {onward}" for sight, onward in node[2]])
        return f"turn {spaced(told)} : {ways}"
    if word == "lay":
        return f"lay {slashed(told)}"
    return f"tell {figures(told)}"


def figures(bits):
    """Bits as figures, one behind another."""
    return "".join([str(bit) for bit in bits])


def spaced(places):
    """Places parted by spaces."""
    return " ".join([str(place) for place in places])


def slashed(rows):
    """Rows of places parted by slashes."""
    return " / ".join([spaced(places) for places in rows])


def ended_lines(text):
    """The lines of a text, without their newlines."""
    if not isinstance(text, str) or text == "":
        raise BadText(0)
    lines = text.split("\n")
    if lines[-1] != "":
        raise BadText(len(lines) - 1)
    return lines[:-1]


def read_head(line):
    """The bits and helps of a first line, None if no way begins so."""
    words = line.split(" ")
    if len(words) != 4 or words[0] != "bits" or words[2] != "helps":
        return None
    bits = read_number(words[1])
    helps = read_cards(words[3])
    if head_fault(bits, helps) is not None:
        return None
    return (bits, helps)


def read_node(line):
    """The node of a line, right or wrong, None if the line has no such form."""
    word, _, rest = line.partition(" ")
    if word == "move":
        return read_move(rest)
    if word == "shuffle":
        return read_shuffle(rest)
    if word == "turn":
        return read_turn(rest)
    if word == "lay":
        pairs = read_rows(rest)
        return None if pairs is None else ("lay", pairs)
    if word == "tell":
        bits = read_bits(rest)
        return None if bits is None else ("tell", bits)
    return None


def read_move(text):
    """The move of a line's rest, None if it has no such form."""
    parts = text.split(" to ")
    if len(parts) != 2:
        return None
    order = read_places(parts[0])
    onward = read_number(parts[1])
    return None if order is None or onward is None else ("move", order, onward)


def read_shuffle(text):
    """The shuffle of a line's rest, None if it has no such form."""
    parts = text.split(" to ")
    if len(parts) != 2:
        return None
    orders = read_rows(parts[0])
    onward = read_number(parts[1])
    return None if orders is None or onward is None else ("shuffle", orders, onward)


def read_turn(text):
    """The turn of a line's rest, None if it has no such form."""
    parts = text.split(" : ")
    if len(parts) != 2:
        return None
    places = read_places(parts[0])
    ways = [read_sight_way(part) for part in parts[1].split(", ")]
    return None if places is None or None in ways else ("turn", places, tuple(ways))


def read_sight_way(text):
    """A sight and its next node, None if the text has no such form."""
    parts = text.split(" to ")
    if len(parts) != 2:
        return None
    sight = read_cards(parts[0])
    onward = read_number(parts[1])
    return None if sight is None or onward is None else (sight, onward)


def read_rows(text):
    """Rows of places parted by slashes, None if the text has no such form."""
    rows = [read_places(part) for part in text.split(" / ")]
    return None if None in rows else tuple(rows)


def read_places(text):
    """Places parted by spaces, None if the text has no such form."""
    places = [read_number(word) for word in text.split(" ")]
    return None if None in places else tuple(places)


def read_cards(text):
    """Cards as figures, none of them as a hyphen, None if the text has no such form."""
    return () if text == "-" else read_bits(text)


def read_bits(text):
    """One or more bits as figures, None if the text has no such form."""
    if text == "" or not all([letter in "01" for letter in text]):
        return None
    return tuple([int(letter) for letter in text])


def read_number(word):
    """A number of one or two figures, None if the word has no such form."""
    if not 1 <= len(word) <= 2 or not all([letter in FIGURES for letter in word]):
        return None
    if len(word) == 2 and word[0] == "0":
        return None
    return int(word)


def turnings(cards):
    """A tuple and those that come of it when it is turned round, ascending."""
    return sorted([cards[at:] + cards[:at] for at in range(len(cards))])


def five_cards():
    """The AND of two bits with five cards, told."""
    ways = [(sight, 3) for sight in turnings((0, 1, 1, 1, 0))]
    ways = ways + [(sight, 4) for sight in turnings((0, 1, 1, 0, 1))]
    nodes = (
        ("move", (1, 0, 4, 2, 3), 1),
        ("shuffle", tuple(turnings((0, 1, 2, 3, 4))), 2),
        ("turn", (0, 1, 2, 3, 4), tuple(sorted(ways))),
        ("tell", (1,)),
        ("tell", (0,)),
    )
    return ((2, (1,), nodes), ((0,), (0,), (0,), (1,)))


def double_bit():
    """A bit laid twice."""
    nodes = (
        ("shuffle", ((0, 1, 2, 3, 4, 5), (1, 0, 3, 2, 5, 4)), 1),
        ("turn", (0,), (((0,), 2), ((1,), 3))),
        ("lay", ((2, 3), (4, 5))),
        ("lay", ((3, 2), (5, 4))),
    )
    return ((1, (0, 1, 0, 1), nodes), ((0, 0), (1, 1)))


def again_and_again():
    """A bit laid as it is, once a help that was shuffled is seen as 0."""
    nodes = (
        ("shuffle", ((0, 1, 2, 3), (0, 1, 3, 2)), 1),
        ("turn", (2,), (((0,), 2), ((1,), 0))),
        ("lay", ((0, 1),)),
    )
    return ((1, (0, 1), nodes), ((0,), (1,)))


def open_look():
    """A bit laid as it is when it was seen, so not silent."""
    nodes = (
        ("turn", (0,), (((0,), 1), ((1,), 1))),
        ("lay", ((0, 1),)),
    )
    return ((1, (), nodes), ((0,), (1,)))
