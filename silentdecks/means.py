"""Means: how many nodes of a kind are passed in the mean, by equations between pairs of node and row.

An equation is a triple (scale, constant, shares): so many times the mean of its pair is the constant and, for each
number in the dict of shares, so many times that pair's mean. All of them are whole numbers, the scale above 0.
"""

from math import gcd

from silentdecks.errors import TooMany
from silentdecks.tables import leading_to, lowest, states_behind

MOST_STATES = 400


def mean_passed(way, row, word):
    """The mean number of nodes of a word's kind that are passed, None if no end may be come to."""
    states, links = states_from(way, row)
    ends = [number for number, link in enumerate(links) if not link]
    if len(leading_to(links, ends)) < len(states):
        return None
    equations = []
    for number, link in enumerate(links):
        passed = 1 if way[2][states[number][0]][0] == word else 0
        equations.append(equation_at(number, link, passed))
    return solved(equations)


def states_from(way, row):
    """The pairs of node and row that can be come to and, for each, the numbers of those behind it."""
    states = [(0, row)]
    numbers = {(0, row): 0}
    links = []
    while len(links) < len(states):
        behind = states_behind(way, states[len(links)])
        for state in behind:
            if state not in numbers:
                if len(states) == MOST_STATES:
                    raise TooMany(MOST_STATES)
                numbers[state] = len(states)
                states.append(state)
        links.append([numbers[state] for state in behind])
    return (states, links)


def equation_at(number, link, passed):
    """The equation of a pair with the pairs behind it, each equally likely, and 1 for a node that counts."""
    shares = {}
    for after in link:
        shares[after] = shares.get(after, 0) + 1
    # An end and a turn that loses the way have nothing behind them.
    many = max(len(link), 1)
    return closed(number, many, many * passed, shares)


def closed(number, scale, constant, shares):
    """An equation without a share of its own pair, in lowest terms."""
    scale = scale - shares.get(number, 0)
    shared = gcd(scale, constant)
    for share in shares.values():
        shared = gcd(shared, share)
    rest = {after: share // shared for after, share in shares.items() if after != number}
    return (scale // shared, constant // shared, rest)


def solved(equations):
    """The mean of the first pair, a ratio; each other pair's equation is put into those that need it."""
    users = [{} for _ in equations]
    for number, equation in enumerate(equations):
        for share in equation[2]:
            users[share][number] = True
    left = list(range(1, len(equations)))
    while left:
        # Which one is put in first changes nothing but how long it takes.
        number = min([(len(users[at]) * len(equations[at][2]), at) for at in left])[1]
        left.remove(number)
        for share in equations[number][2]:
            del users[share][number]
        for user in list(users[number]):
            equations[user] = put_in(equations[user], user, equations[number], number)
            for share in equations[user][2]:
                users[share][user] = True
    return lowest(equations[0][1], equations[0][0])


def put_in(equation, user, known, number):
    """The equation of a pair in which the mean of the numbered pair is put in by that pair's equation."""
    scale, constant, shares = equation
    times = shares[number]
    mixed = {after: share * known[0] for after, share in shares.items() if after != number}
    for after, share in known[2].items():
        mixed[after] = mixed.get(after, 0) + share * times
    return closed(user, scale * known[0], constant * known[0] + known[1] * times, mixed)
