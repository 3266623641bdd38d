"""Ways and values that several tests use."""

LAY = ("lay", ((0, 1),))
FLIP = ("lay", ((1, 0),))
SAME = ((0,), (1,))
ZERO = ((0,), (0,))


class Subclass(int):
    """An integer of a class of its own, which is an int and no bool."""


def one_bit(*nodes, helps=()):
    return (1, helps, nodes)


def look(at, *onward):
    """A turn of one place that goes on to these nodes by the sights 0 and 1, None for a sight without a node."""
    return ("turn", (at,), tuple(((card,), k) for card, k in enumerate(onward) if k is not None))


def moved_chain(many, end=LAY):
    """A way of one bit with so many nodes, the last of them the end."""
    moves = tuple(("move", (0, 1), k + 1) for k in range(many - 1))
    return (1, (), moves + (end,))


def sharp(*rows):
    """A table in which each input has one row alone, or none."""
    return tuple(None if row is None else ((row, (1, 1)),) for row in rows)


ODD_VALUES = (
    None, True, False, 0, 1, -1, 2.0, "", "lay", b"", b"lay", [], {}, set(), frozenset(), (), ((),), (None,),
    [(0,)], {"a": 1}, object(), int, lambda: 1, (1, 2), (1, 2, 3), ("move", (0, 1), 0), ([], {}, set()), (((((),),),),),
)

# Values that are no number of turns that a watcher sees.
NO_NUMBERS = (7, 8, 30, 1000, 10 ** 30, -1, -7, True, False, None, 1.0, 6.0, "", "1", b"1", (), (1,), [1], {}, Subclass(7))


def small_node(dice, cards, nodes, tells):
    """A node of a small way, in many ways one that leaves the bits where they lie."""
    kind = dice.choice(("move", "shuffle", "shuffle", "turn", "turn", "end", "end"))
    if kind == "end" and tells:
        return ("tell", (dice.randrange(2),))
    if kind == "end":
        return ("lay", (tuple(dice.sample(range(cards), 2)),)) if dice.random() < 0.4 else LAY
    if kind == "turn":
        places = tuple(sorted(dice.sample(range(cards), dice.choice((1, 1, 1, 2)))))
        sights = [tuple((k >> at) & 1 for at in range(len(places))) for k in range(1 << len(places))]
        kept = sorted(sight for sight in sights if dice.random() < 0.95)
        return ("turn", places, tuple((sight, dice.randrange(nodes)) for sight in kept or sights[:1]))
    orders = [tuple(dice.sample(range(cards), cards)) for _ in range(dice.choice((1, 1, 2)))]
    if dice.random() < 0.6 and cards > 2:
        orders = [(0, 1) + tuple(dice.sample(range(2, cards), cards - 2))]
    if kind == "move":
        return ("move", orders[0], dice.randrange(nodes))
    return ("shuffle", tuple(sorted({tuple(range(cards)), *orders})), dice.randrange(nodes))


def small_way(dice):
    """A way of one or two bits with few cards and nodes, drawn with dice."""
    bits = dice.choice((1, 1, 1, 2))
    helps = tuple(dice.randrange(2) for _ in range(dice.randrange(4)))
    many = dice.randrange(1, 7)
    tells = dice.random() < 0.5
    nodes = tuple(small_node(dice, 2 * bits + len(helps), many, tells) for _ in range(many))
    return (bits, helps, nodes)


def small_wish(dice, way):
    and_, xor, first = ((0,), (0,), (0,), (1,)), ((0,), (1,), (1,), (0,)), ((0,), (0,), (1,), (1,))
    return dice.choice((SAME, ZERO) if way[0] == 1 else (xor, and_, ZERO * 2, first))


def lively_way(dice):
    """A way drawn with dice that shuffles and turns all cards alike, ends at its last node and often goes back."""
    bits = dice.choice((1, 1, 2))
    helps = tuple(dice.randrange(2) for _ in range(dice.randrange(1, 4)))
    cards, many = 2 * bits + len(helps), dice.randrange(3, 8)
    nodes = []
    for k in range(many - 1):
        onward = dice.choice((k + 1, k + 1, dice.randrange(many)))
        if k % 2 == 0:
            orders = {tuple(dice.sample(range(cards), cards)) for _ in range(dice.randrange(1, 5))}
            nodes.append(("shuffle", tuple(sorted(orders)), onward))
        else:
            kept = [sight for sight in (0, 1) if dice.random() < 0.9] or [0]
            onward = (k + 1, k + 1, dice.randrange(many))
            nodes.append(("turn", (dice.randrange(cards),), tuple(((sight,), dice.choice(onward)) for sight in kept)))
    return (bits, helps, tuple(nodes) + (dice.choice((("tell", (1,)), LAY)),))
