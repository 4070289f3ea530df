"""The least number of moves between clear floors, and the first of the shortest routes (point 12)."""

from crossfloor.errors import NotClear
from crossfloor.reach.pairs import leading_pairs
from crossfloor.reach.reasons import check_reachable
from crossfloor.rings.alignments import column_alignments, row_alignments
from crossfloor.rings.permutations import gap_distance, gap_word, rest_behind
from crossfloor.rings.rings import GAP, columns_of, is_clear, is_matched, labels_of


def least_moves(start, goal):
    """Return the least number of moves from start to goal; raise Unreachable or NotClear."""
    check_reachable(start, goal)
    if not is_clear(start):
        raise NotClear()
    # On a matched floor partners have the same label, so both distances of a pair are equal.
    return min([max(gap_distance(p), gap_distance(q)) for p, q in leading_pairs(start, goal)])


def matched_route(start, goal, count):
    """Return the least tuple of so many leaders whose moves lead to the goal; start is matched."""
    # The label of a used row is its leader, so a word of row labels is a route.
    rows = [p for p, _ in leading_pairs(start, goal)]
    return min([gap_word(p) for p in rows if gap_distance(p) == count])


def is_made_by(permutation, count):
    """True if the permutation is a product of exactly so many exchanges of the gap with a label."""
    # An exchange and its repetition cancel out, so two more than enough are possible, too.
    distance = gap_distance(permutation)
    return distance <= count and (count - distance) % 2 == 0


def rests_behind(permutations, label, count):
    """Return the list of what can follow the exchange with the label in exactly so many exchanges.

    Both together are to make one of the permutations.
    """
    rests = [rest_behind(permutation, label) for permutation in permutations]
    return [rest for rest in rests if is_made_by(rest, count)]


def labels_before(permutations, count):
    """Return the list of the labels with which one of the permutations can begin, so many exchanges before its end."""
    labels = [label for label, _ in permutations[0] if label != GAP]
    return [label for label in labels if rests_behind(permutations, label, count)]


def least_crossing(floor, row_labels, column_labels):
    """Return the least item that stands in one of the rows and in one of the columns."""
    columns = [min(column) in column_labels for column in columns_of(floor)]
    rows = [names for names in floor if min(names) in row_labels]
    return min([name for names in rows for name, fits in zip(names, columns) if fits])


def full_route(floor, rows, columns, count):
    """Return the least tuple of so many items whose moves make one of the rows and one of the columns.

    All items of the floor are leaders, so any row label can be paired with any column label.
    """
    route = []
    for left in reversed(range(count)):
        name = least_crossing(floor, labels_before(rows, left), labels_before(columns, left))
        rows = rests_behind(rows, labels_of(floor, [name])[0], left)
        columns = rests_behind(columns, labels_of(columns_of(floor), [name])[0], left)
        route.append(name)
    return tuple(route)


def first_route(start, goal):
    """Return the least of the shortest routes from start to goal; raise the errors of least_moves."""
    count = least_moves(start, goal)
    if is_matched(start):
        return matched_route(start, goal, count)
    rows = [p for p in row_alignments(start, goal) if is_made_by(p, count)]
    columns = [q for q in column_alignments(start, goal) if is_made_by(q, count)]
    return full_route(start, rows, columns, count)
