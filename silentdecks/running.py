"""Running: a way done once, with coins that name the orders of its shuffles."""

from silentdecks.errors import BadCoins
from silentdecks.kinds import is_number, is_tuple
from silentdecks.tables import next_of, orders_of, result_at, row_in_order, sight_at
from silentdecks.ways import check_input, check_way, is_end, laid_row

MOST_COINS = 100
HIGHEST_COIN = 839
MOST_PASSED = 100


def hand(way, one, coins):
    """What is seen when a way is done once, how it ends, and the row that lies then."""
    check_hand(way, one, coins)
    sights, end, row, _ = done(way, one, coins)
    return (sights, end, row)


def shuffles_passed(way, one, coins):
    """How many coins a way takes when it is done once."""
    check_hand(way, one, coins)
    return done(way, one, coins)[3]


def check_hand(way, one, coins):
    """Raise the error of the first argument that is wrong."""
    check_way(way)
    check_input(way, one)
    if not is_tuple(coins, 0, MOST_COINS) or not all([is_number(coin, 0, HIGHEST_COIN) for coin in coins]):
        raise BadCoins()


def done(way, one, coins):
    """A way done once: what was seen, how it ends, the row that lies then, and how many coins were taken."""
    sights, number, row, taken = (), 0, laid_row(way, one), 0
    for _ in range(MOST_PASSED):
        node = way[2][number]
        if is_end(node):
            return (sights, (node[0], result_at(node, row)), row, taken)
        if node[0] == "turn":
            sight = sight_at(row, node[1])
            sights = sights + (sight,)
            onward = next_of(node, sight)
            if onward is None:
                return (sights, ("lost", number), row, taken)
            number = onward
            continue
        orders = orders_of(node)
        coin = 0
        if node[0] == "shuffle":
            if taken == len(coins):
                return (sights, ("more", number), row, taken)
            coin = coins[taken]
            taken += 1
        number, row = node[2], row_in_order(row, orders[coin % len(orders)])
    return (sights, ("long", number), row, taken)
