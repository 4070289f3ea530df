"""Rings of a floor, and which of its rows and columns are used (points 6 and 7)."""

from crossfloor.floors.grid import is_leader

GAP = ""


def columns_of(floor):
    """Return the tuple of the floor's columns, from left to right."""
    return tuple(zip(*floor))


def ring_of(lines):
    """Return the tuple of the gap and the labels of the lines, in their order."""
    return (GAP,) + tuple([min(line) for line in lines])


def row_ring(floor):
    """Return the row ring of the floor."""
    return ring_of(floor)


def column_ring(floor):
    """Return the column ring of the floor."""
    return ring_of(columns_of(floor))


def labels_of(lines, names):
    """Return the list of the labels of the lines in which the names stand."""
    labels = {name: min(line) for line in lines for name in line}
    return [labels[name] for name in names]


def count_leaders(line):
    """Return the number of leaders in a row or a column."""
    return len([name for name in line if is_leader(name)])


def used_labels(lines):
    """Return the tuple of the labels of the lines that contain a leader, in ascending order."""
    return tuple(sorted([min(line) for line in lines if count_leaders(line) > 0]))


def idle_labels(lines):
    """Return the tuple of the labels of the lines without a leader, in the order of the lines."""
    return tuple([min(line) for line in lines if count_leaders(line) == 0])


def used_rows(floor):
    """Return the tuple of the labels of all used rows, in ascending order."""
    return used_labels(floor)


def used_columns(floor):
    """Return the tuple of the labels of all used columns, in ascending order."""
    return used_labels(columns_of(floor))


def is_matched(floor):
    """True if no row and no column has two leaders or more."""
    return all([count_leaders(line) <= 1 for line in floor + columns_of(floor)])


def is_clear(floor):
    """True if the floor is matched or if all its items are leaders."""
    return is_matched(floor) or all([is_leader(name) for names in floor for name in names])
