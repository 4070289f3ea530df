"""A route from one floor to another one."""

from crossfloor.floors.grid import is_leader
from crossfloor.reach.pairs import leading_pairs
from crossfloor.reach.reasons import check_reachable
from crossfloor.rings.permutations import gap_word, rest_behind
from crossfloor.rings.rings import GAP, columns_of, is_matched, labels_of

# Leaders are less than all other items. So the label of a used row or column is a leader in it,
# and a word of such labels is a route.


def row_mates(floor):
    """Return two leaders that share a row of the floor, or the empty tuple if there are none."""
    for names in floor:
        leaders = [name for name in names if is_leader(name)]
        if len(leaders) > 1:
            return (leaders[0], leaders[1])
    return ()


def rest_behind_all(permutation, labels):
    """Return what has to follow the exchanges of the gap with the labels to make the permutation."""
    rest = permutation
    for label in labels:
        rest = rest_behind(rest, label)
    return rest


def source_of(permutation, image):
    """Return what the permutation maps to the image."""
    return [x for x, y in permutation if y == image][0]


def turn_columns(label, first, second):
    """Return the moves that map label to first's column, this to second's column, and this to label.

    The leaders first and second share a row, so the exchanges of rows cancel out; label is the gap
    or the label of a third used column.
    """
    return (first, second) if label == GAP else (label, first, second, label)


def turn_towards(place, rest, mates, mate_labels):
    """Return moves that leave less of the rest: they map its source of the place there, or to the first mate."""
    first, second = mates
    source = source_of(rest, place)
    if source == mate_labels[0]:
        return turn_columns(place, second, first)
    if source == mate_labels[1]:
        return turn_columns(place, first, second)
    return turn_columns(source, first, second)


def column_route(floor, columns):
    """Return moves that make the even column permutation and leave the rows; two leaders share a row."""
    lines = columns_of(floor)
    mates = row_mates(floor)
    mate_labels = labels_of(lines, mates)
    rest = columns
    route = []
    # An even permutation that maps all but two places to themselves maps these two there, too.
    for place in [x for x, _ in columns if x not in mate_labels]:
        while source_of(rest, place) != place:
            turn = turn_towards(place, rest, mates, mate_labels)
            route.extend(turn)
            rest = rest_behind_all(rest, labels_of(lines, turn))
    return tuple(route)


def route_by_rows(floor, rows, columns):
    """Return moves that make both permutations, of one sign, on a floor with two leaders in a row."""
    route = gap_word(rows)
    rest = rest_behind_all(columns, labels_of(columns_of(floor), route))
    return route + column_route(floor, rest)


def find_route(start, goal):
    """Return a tuple of leaders whose moves lead from start to goal; raise Unreachable if there is none."""
    check_reachable(start, goal)
    rows, columns = leading_pairs(start, goal)[0]
    if is_matched(start):
        return gap_word(rows)
    if row_mates(start):
        return route_by_rows(start, rows, columns)
    # Where no row has two leaders, a column has, and the floor can be seen from its diagonal.
    return route_by_rows(columns_of(start), columns, rows)
