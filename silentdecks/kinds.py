"""Whether any value is of a kind of which ways are built."""


def is_integer(value):
    """Tell whether a value is an integer, which True and False are not."""
    return isinstance(value, int) and not isinstance(value, bool)


def is_number(value, least, most):
    """Tell whether a value is an integer from least to most."""
    return is_integer(value) and least <= value <= most


def is_tuple(value, least, most):
    """Tell whether a value is a tuple of least to most items."""
    return isinstance(value, tuple) and least <= len(value) <= most


def are_bits(value, least, most):
    """Tell whether a value is a tuple of least to most bits; cards and sights are written alike."""
    return is_tuple(value, least, most) and all([is_number(bit, 0, 1) for bit in value])


def are_places(value, cards):
    """Tell whether a value is a tuple of unlike places of a row of so many cards."""
    if not isinstance(value, tuple):
        return False
    if not all([is_number(place, 0, cards - 1) for place in value]):
        return False
    return len(set(value)) == len(value)


def is_order(value, cards):
    """Tell whether a value is an order of a row of so many cards."""
    return are_places(value, cards) and len(value) == cards


def are_orders(value, cards):
    """Tell whether a value is a tuple of orders as it stands in a shuffle."""
    if not is_tuple(value, 1, 8):
        return False
    return all([is_order(order, cards) for order in value]) and rises(value)


def rises(values):
    """Tell whether each of the values is above the one ahead of it."""
    return all([low < high for low, high in zip(values, values[1:])])
