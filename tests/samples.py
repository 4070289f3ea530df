"""Floors, strings and checks that several test files share."""

import itertools
import random
import re

from crossfloor.errors import BadFloor, CrossError, Unreachable
from crossfloor.reach.reasons import check_reason

# All characters of the document's strings: the space to "~" without the per cent sign, and the newline.
PER_CENT = 37
CHARACTERS = [chr(code) for code in range(32, 127) if code != PER_CENT] + ["\n"]
CAPITALS = "ABCDEFGHIJKLMNOPQRSTUVWXYZ"
SMALL = "abcdefghijklmnopqrstuvwxyz"

ROW_OF_TWELVE = (("a", "B", "c", "D", "e", "F", "g", "H", "i", "J", "k", "L"),)
COLUMN_OF_TWELVE = tuple((name,) for name in "lKjIhGfEdCbA")


def big_name(row, column):
    """A name of two to six letters, another one for each cell of a floor of twelve rows and columns."""
    first = SMALL[row].upper() if (row + column) % 5 == 0 else SMALL[row]
    return first + SMALL[column] * (1 + column % 5)


TWELVE_BY_TWELVE = tuple(tuple(big_name(row, column) for column in range(12)) for row in range(12))

# Right floors, each with its written form and its leaders.
SAMPLES = [
    ((("a",),), "a", ()),
    ((("A",),), "A", ("A",)),
    ((("Abcdef",),), "Abcdef", ("Abcdef",)),
    ((("zyxwvu",),), "zyxwvu", ()),
    ((("a", "b"), ("c", "d")), "a b\nc d", ()),
    ((("A", "b"), ("c", "D")), "A b\nc D", ("A", "D")),
    ((("D", "b"), ("c", "A")), "D b\nc A", ("A", "D")),
    ((("D", "C"), ("B", "A")), "D C\nB A", ("A", "B", "C", "D")),
    ((("Ab", "ab"),), "Ab ab", ("Ab",)),
    ((("ab",), ("Ab",)), "ab\nAb", ("Ab",)),
    ((("Zz", "a", "A"), ("zz", "Aa", "Z")), "Zz a A\nzz Aa Z", ("A", "Aa", "Z", "Zz")),
    ((("A", "B", "C"),), "A B C", ("A", "B", "C")),
    ((("C",), ("b",), ("A",)), "C\nb\nA", ("A", "C")),
    ((("Az", "Z", "y"), ("Azz", "Aa", "x")), "Az Z y\nAzz Aa x", ("Aa", "Az", "Azz", "Z")),
    (ROW_OF_TWELVE, "a B c D e F g H i J k L", ("B", "D", "F", "H", "J", "L")),
    (COLUMN_OF_TWELVE, "l\nK\nj\nI\nh\nG\nf\nE\nd\nC\nb\nA", ("A", "C", "E", "G", "I", "K")),
]


def wrong_position(floor):
    """The position that must be reported for the floor, or None: the document's words, one by one."""
    if len(floor) == 0 or len(floor[0]) == 0:
        return (0, 0)
    earlier = []
    for row in range(len(floor)):
        for column in range(max(len(floor[row]), len(floor[0]))):
            if row >= 12 or column >= 12:
                return (row, column)
            if column >= len(floor[row]) or column >= len(floor[0]):
                return (row, column)
            name = floor[row][column]
            if re.fullmatch("[A-Za-z][a-z]{0,5}", name) is None or name in earlier:
                return (row, column)
            earlier.append(name)
    return None


def split_text(text):
    """The rows and strings of a text, character by character."""
    rows = [[""]]
    for character in text:
        if character == "\n":
            rows.append([""])
        elif character == " ":
            rows[-1].append("")
        else:
            rows[-1][-1] += character
    return tuple(tuple(row) for row in rows)


def changed(floor, row, column, text):
    """The floor with another string at one position."""
    rows = [list(names) for names in floor]
    rows[row][column] = text
    return tuple(tuple(names) for names in rows)


def turned(floor):
    """The floor with its rows as columns and its columns as rows."""
    return tuple(tuple(floor[row][column] for row in range(len(floor))) for column in range(len(floor[0])))


def reordered(floor, rows, columns):
    """The floor whose lines are those of the floor with the given numbers."""
    return tuple(tuple(floor[row][column] for column in columns) for row in rows)


def led_floor(count, width, places):
    """A floor of that many rows and columns whose leaders stand at the places; labels do not ascend."""
    def name(row, column):
        text = SMALL[(7 * row + 3) % 12] + SMALL[(5 * column + 2) % 12]
        return text.capitalize() if (row, column) in places else text
    return tuple(tuple(name(row, column) for column in range(width)) for row in range(count))


def is_tuple_of_tuples(values):
    """True if this is a tuple of tuples of strings."""
    kinds = [type(value) is tuple and {type(text) for text in value} <= {str} for value in values]
    return type(values) is tuple and all(kinds)


def positions_of(floor):
    """All positions of the floor with their names."""
    return [(row, column, name) for row, names in enumerate(floor) for column, name in enumerate(names)]


def assert_raises(test, kind, values, call, *arguments):
    """The call raises an error of this very class, with these values in its attributes."""
    with test.assertRaises(CrossError) as caught:
        call(*arguments)
    error = caught.exception
    test.assertIs(type(error), kind, arguments)
    for attribute, value in values.items():
        test.assertEqual(getattr(error, attribute), value, arguments)
        test.assertIs(type(getattr(error, attribute)), type(value), arguments)


def assert_bad_floor(test, place, call, *arguments):
    """The call raises BadFloor with this place."""
    assert_raises(test, BadFloor, {"row": place[0], "column": place[1]}, call, *arguments)


def full_floor(count, width):
    """A floor of that many rows and columns with leaders only."""
    return led_floor(count, width, list(itertools.product(range(count), range(width))))


def all_led_floors(count, width):
    """All floors of that many rows and columns: each choice of leaders, without any to leaders only."""
    places = list(itertools.product(range(count), range(width)))
    chosen = itertools.product((False, True), repeat=len(places))
    return [led_floor(count, width, [place for place, led in zip(places, choice) if led]) for choice in chosen]


def some_led_floors(count, width, many):
    """Some floors of that many rows and columns, those without leaders and with leaders only among them."""
    floors = all_led_floors(count, width)
    return [floors[0], floors[-1]] + random.Random(count * 100 + width).sample(floors, many)


# Two floors and the first reason why no moves lead from the one to the other, or None, written out by hand.
REASONS = [
    ((("a",),), (("b",),), ("items", "a")),
    ((("b",),), (("a",),), ("items", "a")),
    ((("ab",),), (("a",),), ("items", "a")),
    ((("d", "a"),), (("c", "b"),), ("items", "a")),
    ((("a", "Z"),), (("a", "B"),), ("items", "B")),
    ((("a", "b"),), (("a", "b", "c"),), ("items", "c")),
    ((("a", "b"), ("c", "d")), (("a", "b"),), ("items", "c")),
    ((("a", "b"), ("c", "d")), (("a", "c"), ("b", "x")), ("items", "d")),
    ((("a", "b", "c"),), (("c",), ("b",), ("a",)), ("row", "a", "b")),
    ((("A", "b"), ("c", "D")), (("A", "D"), ("c", "b")), ("row", "A", "D")),
    ((("A", "b"), ("c", "d"), ("e", "f")), (("A", "b"), ("f", "d"), ("e", "c")), ("row", "c", "d")),
    ((("a", "b"), ("c", "d")), (("a", "b"), ("d", "c")), ("column", "a", "c")),
    ((("a", "C"), ("b", "D")), (("D", "b"), ("a", "C")), ("column", "C", "D")),
    ((("a", "b", "c"), ("d", "e", "f")), (("a", "b", "c"), ("d", "f", "e")), ("column", "b", "e")),
    ((("a",), ("b",)), (("b",), ("a",)), ("idle rows", ("a", "b", "a"))),
    ((("a",), ("b",), ("c",)), (("b",), ("a",), ("c",)), ("idle rows", ("a", "b", "a", "a"))),
    ((("a",), ("b",), ("C",)), (("b",), ("a",), ("C",)), ("idle rows", ("a", "b", "a", "a"))),
    ((("c",), ("b",), ("a",)), (("a",), ("b",), ("c",)), ("idle rows", ("a", "a", "b", "a"))),
    ((("a", "b"), ("c", "d")), (("d", "c"), ("b", "a")), ("idle rows", ("a", "c", "a"))),
    ((("b", "a"),), (("a", "b"),), ("idle columns", ("a", "a", "b"))),
    ((("A", "B"), ("C", "d")), (("B", "A"), ("d", "C")), ("signs",)),
    ((("A", "B"), ("C", "d")), (("C", "d"), ("A", "B")), ("signs",)),
    ((("A", "b"), ("C", "d"), ("E", "f")), (("A", "b"), ("E", "f"), ("C", "d")), None),
    ((("A", "B"), ("C", "D")), (("B", "A"), ("D", "C")), ("signs",)),
    ((("A", "B"),), (("A", "B"),), None),
    ((("A", "B"),), (("B", "A"),), None),
    ((("A", "b"), ("c", "D")), (("c", "D"), ("A", "b")), ("matching",)),
    ((("A", "b"), ("c", "D")), (("D", "c"), ("b", "A")), None),
    ((("a", "B"), ("c", "d")), (("B", "a"), ("d", "c")), ("matching",)),
    ((("a",),), (("a",),), None),
    ((("A",),), (("A",),), None),
]

# Floors on which everything can be searched.
SEARCHED = [floor for shape in ((1, 1), (1, 2), (2, 1), (1, 3), (3, 1), (2, 2)) for floor in all_led_floors(*shape)]
SEARCHED += [floor for shape in ((2, 3), (3, 2), (3, 3), (1, 4), (4, 1), (2, 4), (1, 5), (4, 2), (3, 4))
             for floor in some_led_floors(*shape, 14)]
# Clear floors from which up to about a thousand floors can be reached.
WIDER = [
    full_floor(3, 4), full_floor(4, 3), full_floor(4, 4), full_floor(1, 6), full_floor(6, 1), full_floor(3, 5),
    led_floor(4, 4, [(0, 2), (1, 0), (2, 3), (3, 1)]), led_floor(5, 5, [(0, 3), (1, 0), (2, 4), (3, 2), (4, 1)]),
    led_floor(6, 5, [(5, 2), (1, 0), (3, 4), (0, 3)]), led_floor(3, 7, [(0, 6), (1, 2), (2, 4)]),
    led_floor(6, 6, [(0, 5), (1, 2), (3, 4), (4, 0), (5, 1)]),
]
EACH_ROW_AND_COLUMN = [(row, (5 * row + 3) % 12) for row in range(12)]
EVERY_PLACE = list(itertools.product(range(12), repeat=2))
# Floors of twelve rows and twelve columns: how many leaders there are, and where.
GREAT = {
    "none": led_floor(12, 12, []),
    "one": led_floor(12, 12, [(7, 4)]),
    "matched": led_floor(12, 12, EACH_ROW_AND_COLUMN),
    "matched in part": led_floor(12, 12, EACH_ROW_AND_COLUMN[2:9]),
    "one row": led_floor(12, 12, [(4, column) for column in range(12)]),
    "one column": led_floor(12, 12, [(row, 9) for row in range(12)]),
    "part of a row": led_floor(12, 12, [(4, column) for column in range(1, 9, 2)]),
    "part of a column": led_floor(12, 12, [(row, 9) for row in range(3, 11, 3)]),
    "a few": led_floor(12, 12, [(1, 1), (1, 5), (6, 5), (10, 11)]),
    "a corner": led_floor(12, 12, list(itertools.product(range(3), range(4)))),
    "one more than matched": led_floor(12, 12, EACH_ROW_AND_COLUMN + [(0, 0)]),
    "all but one": led_floor(12, 12, EVERY_PLACE[1:]),
    "all": led_floor(12, 12, EVERY_PLACE),
}


def assert_unreachable(test, start, goal, call, *arguments):
    """The call raises Unreachable with a reason that is right for the two floors."""
    with test.assertRaises(CrossError) as caught:
        call(*arguments)
    test.assertIs(type(caught.exception), Unreachable, arguments)
    reason = caught.exception.reason
    test.assertIs(type(reason), tuple, arguments)
    test.assertIs(check_reason(start, goal, reason), True, (arguments, reason))
