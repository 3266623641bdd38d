"""Ways and values that several tests use."""

LAY = ("lay", ((0, 1),))
FLIP = ("lay", ((1, 0),))
SAME = ((0,), (1,))
ZERO = ((0,), (0,))


class Subclass(int):
    """An integer of a class of its own, which is an int and no bool."""


def one_bit(*nodes, helps=()):
    return (1, helps, nodes)


def moved_chain(many, end=LAY):
    """A way of one bit with so many nodes, the last of them the end."""
    moves = tuple(("move", (0, 1), k + 1) for k in range(many - 1))
    return (1, (), moves + (end,))


def sharp(*rows):
    """A table in which each input has one row alone, or none."""
    return tuple(None if row is None else ((row, (1, 1)),) for row in rows)


ODD_VALUES = (
    None, True, False, 0, 1, -1, 2.0, "", "lay", b"", b"lay", [], {}, set(), frozenset(), (), ((),), (None,),
    [(0,)], {"a": 1}, object(), int, lambda: 1, (1, 2), (1, 2, 3), ("move", (0, 1), 0), ([], {}, set()), (((((),),),),),
)
