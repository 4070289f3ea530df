"""Floors as tuples of rows: which of them are right, where an item is, which items are leaders."""

from crossfloor.errors import BadFloor, UnknownItem

MOST_LINES = 12
LONGEST_NAME = 6
UPPER = "ABCDEFGHIJKLMNOPQRSTUVWXYZ"
LOWER = "abcdefghijklmnopqrstuvwxyz"


def is_name(text):
    """True if the string is a name (point 3)."""
    if not 1 <= len(text) <= LONGEST_NAME:
        return False
    if text[0] not in UPPER and text[0] not in LOWER:
        return False
    return all([letter in LOWER for letter in text[1:]])


def is_leader(name):
    """True if the item of this name is a leader (point 3)."""
    return name[0] in UPPER


def has_name(floor, row, column):
    """True if a floor of this width may have a cell there and this one has a name in it."""
    # Row 0 fixes the width, so a cell to the right of its end is wrong in every row.
    if row >= MOST_LINES or column >= min(MOST_LINES, len(floor[0]), len(floor[row])):
        return False
    return is_name(floor[row][column])


def check_floor(floor):
    """Raise BadFloor with the first wrong position if the floor is not right (points 3 and 4)."""
    if not floor or not floor[0]:
        raise BadFloor(0, 0)
    seen = set()
    for row, names in enumerate(floor):
        for column in range(max(len(names), len(floor[0]))):
            if not has_name(floor, row, column) or names[column] in seen:
                raise BadFloor(row, column)
            seen.add(names[column])


def locate(floor, name):
    """Return the pair (row, column) of the item; raise UnknownItem if it is not on the floor."""
    for row, names in enumerate(floor):
        if name in names:
            return (row, names.index(name))
    raise UnknownItem(name)


def leaders_of(floor):
    """Return the tuple of all leaders on the floor, in ascending order."""
    return tuple(sorted([name for names in floor for name in names if is_leader(name)]))
