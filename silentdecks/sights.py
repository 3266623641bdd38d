"""Sights: their chances, what they tell of the inputs, and how many turns and shuffles it takes."""

from silentdecks.errors import BadNumber, BadSights
from silentdecks.gaps import added, distance, first_apart, gap_of, multiplied, to_turn
from silentdecks.kinds import are_bits, is_number, is_tuple
from silentdecks.means import mean_passed
from silentdecks.tables import lowest, next_of, parted_weights, result_at, sight_at, states_behind
from silentdecks.ways import bit_rows, check_input, check_way, check_wish, has_tell, is_end, laid_row

MOST_SIGHTS = 6
MOST_SEEN = 8


def sight_chance(way, one, sights):
    """The chance that an input comes to so many turns at least and sees just these sights at the first ones."""
    check_way(way)
    check_input(way, one)
    if not is_tuple(sights, 0, MOST_SIGHTS) or not all([are_bits(sight, 1, MOST_SEEN) for sight in sights]):
        raise BadSights()
    return chance_of(way, one, sights)


def first_leak(way, wish, many):
    """The first sights that tell two inputs apart, with the inputs and their chances; None if there are none."""
    check_watch(way, wish, many)
    found = []
    for one, other in kept_alike(way, wish):
        sights = first_apart(way, 0, gap_of(way, one, other), many)
        if sights is not None:
            found.append((len(sights), sights, one, other))
    if not found:
        return None
    _, sights, one, other = min(found)
    return (sights, one, other, chance_of(way, one, sights), chance_of(way, other, sights))


def first_wrong(way, wish, many):
    """The first sights behind which the way can end otherwise than wished or is lost, with the input, or None."""
    check_watch(way, wish, many)
    found = []
    for one, result in zip(bit_rows(way[0]), wish):
        sights = wrong_sights(way, one, result, many)
        if sights is not None:
            found.append((len(sights), sights, one))
    if not found:
        return None
    _, sights, one = min(found)
    return (sights, one)


def best_guess(way, one, other, many):
    """The best chance to say which of two inputs it was, for a watcher of the first many turns."""
    check_way(way)
    check_input(way, one)
    check_input(way, other)
    check_many(many)
    # The greater one of two chances is half of what both come to and of the amount by which they differ.
    return added((1, 2), multiplied(distance(way, gap_of(way, one, other), many), 1, 4))


def mean_turns(way, one):
    """The mean number of turns passed for an input, None if it may come to where no end can be come to."""
    check_way(way)
    check_input(way, one)
    return mean_passed(way, laid_row(way, one), "turn")


def mean_shuffles(way, one):
    """The mean number of shuffles passed for an input, None if it may come to where no end can be come to."""
    check_way(way)
    check_input(way, one)
    return mean_passed(way, laid_row(way, one), "shuffle")


def check_watch(way, wish, many):
    """Raise the error of the first argument that is wrong."""
    check_way(way)
    check_wish(way[0], wish)
    check_many(many)


def check_many(value):
    """Raise BadNumber for a value that is no number of first turns that a watcher sees."""
    if not is_number(value, 0, MOST_SIGHTS):
        raise BadNumber()


def chance_of(way, one, sights):
    """The chance of sights for an input, all of them already known to be right."""
    number, weights, whole = 0, {laid_row(way, one): 1}, 1
    for sight in sights:
        turned = to_turn(way, number, weights)
        if turned is None:
            return (0, 1)
        turn = way[2][turned[0]]
        parts = parted_weights(turned[1], turn[1])
        if sight not in parts:
            return (0, 1)
        number, weights, whole = next_of(turn, sight), parts[sight], whole * turned[2]
    return lowest(sum(weights.values()), whole)


def kept_alike(way, wish):
    """The pairs of inputs that should not be told apart, ascending, the lower input first."""
    # Who is told the result may tell inputs with unlike results apart.
    groups = wish if has_tell(way) else [()] * len(wish)
    known = list(zip(bit_rows(way[0]), groups))
    return [(one, other) for one, group in known for other, same in known if one < other and group == same]


def wrong_sights(way, one, result, many):
    """The first sights of an input behind which it can end without its result or is lost, None if there are none."""
    seen = {}
    ahead = {(): [(0, laid_row(way, one))]}
    wrong = []
    for _ in range(many + 1):
        lost = []
        behind = {}
        # What is come to again, behind later sights, goes on to nothing that the first ones don't go on to.
        for sights in sorted(ahead):
            ends, turned = spread(way, ahead[sights], seen)
            if not all([result_at(way[2][number], row) == result for number, row in ends]):
                wrong.append(sights)
            for number, row in turned:
                sight = sight_at(row, way[2][number][1])
                onward = next_of(way[2][number], sight)
                if onward is None:
                    lost.append(sights + (sight,))
                else:
                    behind.setdefault(sights + (sight,), []).append((onward, row))
        if wrong:
            return min(wrong)
        ahead, wrong = behind, lost
    return None


def spread(way, states, seen):
    """The ends and the turns, as pairs of node and row, that are come to from states without a turn and are new."""
    todo = list(states)
    ends = []
    turned = []
    while todo:
        state = todo.pop()
        if state in seen:
            continue
        seen[state] = True
        node = way[2][state[0]]
        if is_end(node):
            ends.append(state)
        elif node[0] == "turn":
            turned.append(state)
        else:
            todo.extend(states_behind(way, state))
    return (ends, turned)
