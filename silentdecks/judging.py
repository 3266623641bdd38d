"""Judging: whether a way is right, silent and surely ends, and the places that show it."""

from math import gcd, lcm

from silentdecks.errors import TooMany
from silentdecks.kinds import are_bits, is_integer, is_number, is_tuple, rises
from silentdecks.tables import first_place, leading_to, next_ones, result_at, sight_chances, weights_by_sight
from silentdecks.ways import check_way, check_wish, has_tell, is_end

MOST_PLACES = 300


def is_sound(way, wish):
    """Tell whether a way is right and silent for a wish and surely ends."""
    return sound_table(way, wish) is not None


def sound_table(way, wish):
    """All places that can be come to, ascending, if the way is sound, None otherwise."""
    check_way(way)
    check_wish(way[0], wish)
    walk = walk_of(way, wish)
    if walk is None or not all_can_end(way, walk[0], walk[1]):
        return None
    return tuple(sorted(walk[0], key=rank))


def ends_surely(way, wish):
    """Tell of a right and silent way whether it surely ends, None for other ways."""
    check_way(way)
    check_wish(way[0], wish)
    walk = walk_of(way, wish)
    if walk is None:
        return None
    return all_can_end(way, walk[0], walk[1])


def shows_sound(way, wish, value):
    """Tell whether any value is a tuple of places that shows that the way is sound."""
    check_way(way)
    check_wish(way[0], wish)
    if not isinstance(value, tuple) or not all([is_place(way, place) for place in value]):
        return False
    # A place that is given twice is still one place.
    places = list({place: True for place in value})
    numbers = {place: number for number, place in enumerate(places)}
    if first_place(way) not in numbers or any([is_wrong(way, wish, place) for place in places]):
        return False
    links = []
    for place in places:
        behind = next_ones(way, place)
        if not all([after in numbers for after in behind]):
            return False
        links.append([numbers[after] for after in behind])
    return all_can_end(way, places, links)


def rank(place):
    """What places are sorted by."""
    return (place[0], tuple([() if entry is None else entry for entry in place[1]]))


def walk_of(way, wish):
    """The places that can be come to and, for each, the numbers of its next ones; None if one is wrong."""
    first = first_place(way)
    places = [first]
    numbers = {first: 0}
    links = []
    while len(links) < len(places):
        place = places[len(links)]
        if is_wrong(way, wish, place):
            return None
        if len(links) == MOST_PLACES:
            raise TooMany(MOST_PLACES)
        behind = next_ones(way, place)
        for after in behind:
            if after not in numbers:
                numbers[after] = len(places)
                places.append(after)
        links.append([numbers[after] for after in behind])
    return (places, links)


def is_wrong(way, wish, place):
    """Tell whether a place is wrong."""
    node, table = way[2][place[0]], place[1]
    if is_end(node):
        return not ends_right(node, wish, table)
    if node[0] == "turn":
        # Who is told the result may tell inputs with unlike results apart.
        groups = wish if has_tell(way) else [()] * len(table)
        return not turns_well(node, groups, table)
    return False


def ends_right(node, wish, table):
    """Tell whether an end has the result of each input that can be there."""
    for result, entry in zip(wish, table):
        if entry is not None and not all([result_at(node, row) == result for row, _ in entry]):
            return False
    return True


def turns_well(node, groups, table):
    """Tell whether a turn loses no input and has the same chances of sights within each group."""
    known = {sight: True for sight, _ in node[2]}
    told = {}
    for group, entry in zip(groups, table):
        if entry is not None:
            chances = sight_chances(weights_by_sight(entry, node[1]))
            if not all([sight in known for sight in chances]):
                return False
            if told.setdefault(group, chances) != chances:
                return False
    return True


def all_can_end(way, places, links):
    """Tell whether from each place each input that can be there can come to an end."""
    return all([one_can_end(way, places, links, one) for one in range(1 << way[0])])


def one_can_end(way, places, links, one):
    """Tell whether one input can come to an end from each place where it can be."""
    there = [place[1][one] is not None for place in places]
    ends = [number for number, place in enumerate(places) if there[number] and is_end(way[2][place[0]])]
    # An input that can be at a next one can be at the place ahead of it, too, so only places where it can be are found.
    return len(leading_to(links, ends)) == sum(there)


def is_place(way, value):
    """Tell whether a value is a pair of a node's number and a table as it is told."""
    bits, helps, nodes = way
    if not is_tuple(value, 2, 2) or not is_number(value[0], 0, len(nodes) - 1):
        return False
    if not is_tuple(value[1], 1 << bits, 1 << bits):
        return False
    cards = 2 * bits + len(helps)
    return all([entry is None or is_entry(entry, cards) for entry in value[1]])


def is_entry(value, cards):
    """Tell whether a value is rows of so many cards, rising, with chances that come to 1."""
    if not isinstance(value, tuple) or not all([is_chance(pair, cards) for pair in value]):
        return False
    return rises([pair[0] for pair in value]) and comes_to_one([pair[1] for pair in value])


def is_chance(value, cards):
    """Tell whether a value is a pair of a row of so many cards and a ratio above 0."""
    return is_tuple(value, 2, 2) and are_bits(value[0], cards, cards) and is_ratio(value[1])


def is_ratio(value):
    """Tell whether a value is a ratio above 0."""
    if not is_tuple(value, 2, 2) or not all([is_integer(part) for part in value]):
        return False
    return value[0] > 0 and value[1] > 0 and gcd(value[0], value[1]) == 1


def comes_to_one(ratios):
    """Tell whether ratios come to 1."""
    whole = 1
    for ratio in ratios:
        whole = lcm(whole, ratio[1])
    return sum([above * (whole // below) for above, below in ratios]) == whole
