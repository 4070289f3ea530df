"""How many floors moves lead to, how far away they are, and shortest routes on any floor."""

from math import factorial

from crossfloor.errors import TooMany
from crossfloor.floors.grid import leaders_of
from crossfloor.moves.cross import crossed
from crossfloor.reach.pairs import leading_pairs
from crossfloor.reach.reasons import check_reachable
from crossfloor.rings.rings import column_ring, columns_of, is_matched, labels_of, row_ring, used_columns, used_rows

LIMIT = 5000


def count_effects(floor):
    """Return the number of different effects that sequences of moves have on the floor (point 10)."""
    rows = factorial(len(used_rows(floor)) + 1)
    if is_matched(floor):
        return rows
    # Any permutations of the used lines and the gap go together, if they are both odd or both even.
    return rows * factorial(len(used_columns(floor)) + 1) // 2


def count_reachable(floor):
    """Return the number of floors to which moves lead from the floor, itself included."""
    # As many effects lead to each of these floors as lead back to the floor itself.
    return count_effects(floor) // len(leading_pairs(floor, floor))


def check_count(floor, limit):
    """Raise TooMany if moves lead from the floor to more floors than the limit."""
    count = count_reachable(floor)
    if count > limit:
        raise TooMany(count)


def orders_of(floor):
    """Return the labels of the rows and of the columns in their order: the floor is known by these."""
    return (row_ring(floor)[1:], column_ring(floor)[1:])


def steps_of(floor):
    """Return the list of all leaders in ascending order, each with the labels of its row and its column."""
    names = leaders_of(floor)
    return list(zip(names, labels_of(floor, names), labels_of(columns_of(floor), names)))


def least_routes(floor):
    """Return the dict from the orders of each floor to which moves lead to the least of its shortest routes."""
    steps = steps_of(floor)
    reached = [orders_of(floor)]
    routes = {reached[0]: ()}
    # Routes of one length are found in ascending order here, so the first one to a floor is the least.
    at = 0
    while at < len(reached):
        rows, columns = reached[at]
        route = routes[reached[at]]
        for name, row, column in steps:
            orders = (crossed(rows, rows.index(row)), crossed(columns, columns.index(column)))
            if orders not in routes:
                routes[orders] = route + (name,)
                reached.append(orders)
        at += 1
    return routes


def layer_sizes(floor, *, limit=LIMIT):
    """Return the tuple of the numbers of floors at the distances 0, 1, 2 and so on; raise TooMany."""
    check_count(floor, limit)
    lengths = [len(route) for route in least_routes(floor).values()]
    return tuple([lengths.count(length) for length in range(max(lengths) + 1)])


def search_route(start, goal, *, limit=LIMIT):
    """Return the least of the shortest routes from start to goal; raise Unreachable or TooMany."""
    check_reachable(start, goal)
    check_count(start, limit)
    return least_routes(start)[orders_of(goal)]
