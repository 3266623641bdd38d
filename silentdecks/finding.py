"""Finding: short ways that use only shuffles that are told, turns of one card, and lays.

A plan is a way's node with the plans of its next nodes in place of their numbers. A search goes through at most 2251
tables, so it never has to give up: with three deeds 1 at first, 6 behind a shuffle, 6 * (6 + 16) behind a second deed
and 132 * 16 behind a turn, since what first lies is known and a turn that all see alike tells nothing.
"""

from silentdecks.errors import BadNumber, BadWay
from silentdecks.kinds import are_orders, is_number, is_tuple
from silentdecks.tables import entry_of, first_place, shuffled_entry, sight_chances, weights_by_sight
from silentdecks.ways import check_wish, head_fault

MOST_SHUFFLES = 6
MOST_DEEDS = 3


def way_found(bits, helps, wish, shuffles, deeds):
    """A sound way with at most so many shuffles and turns one behind another, None if there is none."""
    check_task(bits, helps, wish, shuffles)
    if not is_number(deeds, 0, MOST_DEEDS):
        raise BadNumber()
    plan = plan_found(bits, helps, wish, shuffles, deeds)
    if plan is None:
        return None
    nodes = []
    lay_out(plan, nodes)
    return (bits, helps, tuple(nodes))


def fewest_deeds(bits, helps, wish, shuffles):
    """The least number of shuffles and turns one behind another with which there is a way, None if there is none."""
    check_task(bits, helps, wish, shuffles)
    for deeds in range(MOST_DEEDS + 1):
        if plan_found(bits, helps, wish, shuffles, deeds) is not None:
            return deeds
    return None


def check_task(bits, helps, wish, shuffles):
    """Raise the error of the first argument that is wrong."""
    word = head_fault(bits, helps)
    if word is not None:
        raise BadWay(word, None)
    check_wish(bits, wish)
    cards = 2 * bits + len(helps)
    if not is_tuple(shuffles, 0, MOST_SHUFFLES) or not all([are_orders(orders, cards) for orders in shuffles]):
        raise BadWay("shuffles", None)


def plan_found(bits, helps, wish, shuffles, deeds):
    """A plan for a wish with at most so many deeds, None if there is none."""
    table = first_place((bits, helps, ()))[1]
    return Search(wish, shuffles).plan_from(table, deeds)


class Search:
    """A search for plans: the wish, the shuffles, and the deeds with which tables are known to have no plan."""

    def __init__(self, wish, shuffles):
        self.wish = wish
        self.shuffles = shuffles
        self.failed = {}

    def plan_from(self, table, deeds):
        """A plan from a table with at most so many deeds, None if there is none."""
        if self.failed.get(table, -1) >= deeds:
            return None
        plan = lay_for(table, self.wish)
        if plan is None and deeds > 0:
            plan = self.plan_by_turn(table, deeds)
        # Behind a last shuffle the lay might as well take the cards from where one order has them.
        if plan is None and deeds > 1:
            plan = self.plan_by_shuffle(table, deeds)
        if plan is None:
            self.failed[table] = deeds
        return plan

    def plan_by_shuffle(self, table, deeds):
        """A plan that begins with a shuffle, None if there is none."""
        for orders in self.shuffles:
            plan = self.plan_from(tuple([shuffled_entry(entry, orders) for entry in table]), deeds - 1)
            if plan is not None:
                return ("shuffle", orders, plan)
        return None

    def plan_by_turn(self, table, deeds):
        """A plan that begins with a turn, None if there is none."""
        for place in range(len(table[0][0][0])):
            plans = []
            for sight, part in tables_seen(table, place):
                plan = self.plan_from(part, deeds - 1)
                if plan is None:
                    plans = []
                    break
                plans.append((sight, plan))
            if plans:
                return ("turn", (place,), tuple(plans))
        return None


def tables_seen(table, place):
    """For both sights of a turn the tables behind it; none if inputs are told apart or all see the same sight."""
    parts = [weights_by_sight(entry, (place,)) for entry in table]
    chances = [sight_chances(part) for part in parts]
    if len(chances[0]) < 2 or not all([chance == chances[0] for chance in chances]):
        return []
    return [(sight, tuple([entry_of(part[sight]) for part in parts])) for sight in ((0,), (1,))]


def lay_for(table, wish):
    """A lay that has each input's result, whatever row of its lies there; None if there is none."""
    columns = columns_of(table)
    places = []
    for bit in range(len(wish[0])):
        for flip in (0, 1):
            wanted = tuple([result[bit] ^ flip for result in wish])
            free = [place for place, column in enumerate(columns) if column == wanted and place not in places]
            if not free:
                return None
            places.append(free[0])
    return ("lay", tuple(zip(places[::2], places[1::2])))


def columns_of(table):
    """For each place of the row the cards that lie there for each input, None for an input whose rows differ there."""
    columns = []
    for place in range(len(table[0][0][0])):
        cards = [[row[place] for row, _ in entry] for entry in table]
        columns.append(tuple([seen[0] if min(seen) == max(seen) else None for seen in cards]))
    return columns


def lay_out(plan, nodes):
    """Add a plan's nodes to a list and return the number of the first of them."""
    number = len(nodes)
    # The number is taken before those of the next nodes are.
    nodes.append(plan)
    if plan[0] == "shuffle":
        nodes[number] = ("shuffle", plan[1], lay_out(plan[2], nodes))
    if plan[0] == "turn":
        nodes[number] = ("turn", plan[1], tuple([(sight, lay_out(part, nodes)) for sight, part in plan[2]]))
    return number
