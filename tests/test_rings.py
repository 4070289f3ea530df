"""Points 2, 6 and 7 and the interface of crossfloor/rings/rings.py."""

import itertools
import unittest

from crossfloor.moves.cross import cross
from crossfloor.rings import rings
from crossfloor.rings.rings import column_ring, is_clear, is_matched, row_ring, used_columns, used_rows
from tests.samples import (
    CAPITALS, COLUMN_OF_TWELVE, ROW_OF_TWELVE, SAMPLES, SMALL, TWELVE_BY_TWELVE,
    led_floor, positions_of, turned,
)

FUNCTIONS = (row_ring, column_ring, used_rows, used_columns, is_matched, is_clear)
FLOORS = [floor for floor, _, _ in SAMPLES] + [TWELVE_BY_TWELVE]

# Floors with their row ring, column ring, used rows, used columns, matched, clear, written out by hand.
WRITTEN_OUT = [
    ((("a",),), ("", "a"), ("", "a"), (), (), True, True),
    ((("A",),), ("", "A"), ("", "A"), ("A",), ("A",), True, True),
    ((("b", "a"),), ("", "a"), ("", "b", "a"), (), (), True, True),
    ((("c", "b"), ("a", "d")), ("", "b", "a"), ("", "a", "b"), (), (), True, True),
    ((("A", "b"),), ("", "A"), ("", "A", "b"), ("A",), ("A",), True, True),
    ((("b", "Z"),), ("", "Z"), ("", "b", "Z"), ("Z",), ("Z",), True, True),
    ((("a", "b", "c"), ("d", "E", "f"), ("g", "h", "i")),
     ("", "a", "E", "g"), ("", "a", "E", "c"), ("E",), ("E",), True, True),
    ((("D", "c"), ("b", "A")), ("", "D", "A"), ("", "D", "A"), ("A", "D"), ("A", "D"), True, True),
    ((("c", "D"), ("A", "b")), ("", "D", "A"), ("", "A", "D"), ("A", "D"), ("A", "D"), True, True),
    ((("C", "a", "b"), ("d", "B", "e"), ("f", "g", "A")),
     ("", "C", "B", "A"), ("", "C", "B", "A"), ("A", "B", "C"), ("A", "B", "C"), True, True),
    ((("c", "a", "B"), ("d", "e", "f"), ("A", "g", "h")),
     ("", "B", "d", "A"), ("", "A", "a", "B"), ("A", "B"), ("A", "B"), True, True),
    # Leaders only.
    ((("A", "B"), ("C", "D")), ("", "A", "C"), ("", "A", "B"), ("A", "C"), ("A", "B"), False, True),
    ((("D", "C"), ("B", "A")), ("", "C", "A"), ("", "B", "A"), ("A", "C"), ("A", "B"), False, True),
    ((("B", "A"),), ("", "A"), ("", "B", "A"), ("A",), ("A", "B"), False, True),
    ((("B",), ("A",)), ("", "B", "A"), ("", "A"), ("A", "B"), ("A",), False, True),
    # Two leaders that share a row, two that share a column.
    ((("B", "A", "c"),), ("", "A"), ("", "B", "A", "c"), ("A",), ("A", "B"), False, False),
    ((("B",), ("A",), ("c",)), ("", "B", "A", "c"), ("", "A"), ("A", "B"), ("A",), False, False),
    ((("A", "B"), ("c", "d")), ("", "A", "c"), ("", "A", "B"), ("A",), ("A", "B"), False, False),
    ((("A", "b"), ("C", "d")), ("", "A", "C"), ("", "A", "b"), ("A", "C"), ("A",), False, False),
    ((("A", "B"), ("C", "d")), ("", "A", "C"), ("", "A", "B"), ("A", "C"), ("A", "B"), False, False),
    # One name begins another one; upper-case letters come before lower-case ones.
    ((("ab", "a"), ("abc", "Ab")), ("", "a", "Ab"), ("", "ab", "Ab"), ("Ab",), ("Ab",), True, True),
    ((("Zz", "Z", "a"), ("zz", "Aa", "A")), ("", "Z", "A"), ("", "Zz", "Aa", "A"),
     ("A", "Z"), ("A", "Aa", "Zz"), False, False),
    (ROW_OF_TWELVE, ("", "B"), ("",) + ROW_OF_TWELVE[0], ("B",), ("B", "D", "F", "H", "J", "L"), False, False),
    (COLUMN_OF_TWELVE, ("",) + tuple("lKjIhGfEdCbA"), ("", "A"), tuple("ACEGIK"), ("A",), False, False),
]


def least(names):
    """The name before which no other one stands in Python's order."""
    return [name for name in names if not any(other < name for other in names)][0]


def led_names(names):
    return [name for name in names if name[0] in CAPITALS]


def expected_of(floor):
    """Points 6 and 7, word by word."""
    lines = [[list(names) for names in floor], [list(names) for names in turned(floor)]]
    ring = [tuple([""] + [least(names) for names in side]) for side in lines]
    used = [[least(names) for names in side if led_names(names) != []] for side in lines]
    matched = all(len(led_names(names)) in (0, 1) for side in lines for names in side)
    no_others = [name for _, _, name in positions_of(floor) if name[0] in SMALL] == []
    return [ring[0], ring[1], tuple(sorted(used[0])), tuple(sorted(used[1])), matched, matched or no_others]


def results_of(floor):
    return [function(floor) for function in FUNCTIONS]


class RingsTest(unittest.TestCase):
    def check_floor(self, floor, expected):
        results = results_of(floor)
        self.assertEqual(results, expected, floor)
        self.assertEqual([type(value) for value in results], [tuple] * 4 + [bool] * 2)
        for texts in results[:4]:
            self.assertEqual([text for text in texts if type(text) is not str], [])

    def test_gap(self):
        self.assertEqual(rings.GAP, "")
        self.assertIs(type(rings.GAP), str)

    def test_written_out(self):
        for floor, *expected in WRITTEN_OUT:
            self.check_floor(floor, expected)
            rows, columns, used_row, used_column, matched, clear = expected
            self.check_floor(turned(floor), [columns, rows, used_column, used_row, matched, clear])

    def test_written_out_agrees_with_the_words(self):
        for floor, *expected in WRITTEN_OUT:
            self.assertEqual(expected_of(floor), expected)

    def test_samples(self):
        for floor in FLOORS:
            self.check_floor(floor, expected_of(floor))

    def test_leaders_at_all_places_of_small_floors(self):
        for count, width in ((1, 1), (1, 2), (2, 1), (2, 2), (1, 6), (6, 1), (2, 4), (3, 3)):
            places = list(itertools.product(range(count), range(width)))
            for many in range(len(places) + 1):
                for chosen in itertools.combinations(places, many):
                    floor = led_floor(count, width, chosen)
                    self.check_floor(floor, expected_of(floor))

    def check_places(self, places, matched, clear):
        floor = led_floor(12, 12, places)
        self.check_floor(floor, expected_of(floor))
        self.assertIs(is_matched(floor), matched)
        self.assertIs(is_clear(floor), clear)
        self.assertEqual(len(used_rows(floor)), len({row for row, _ in places}))
        self.assertEqual(len(used_columns(floor)), len({column for _, column in places}))

    def test_twelve_rows_and_columns(self):
        everywhere = list(itertools.product(range(12), repeat=2))
        self.check_places([], True, True)
        self.check_places([(7, 4)], True, True)
        self.check_places([(at, at) for at in range(12)], True, True)
        self.check_places([(at, 11 - at) for at in range(12)], True, True)
        self.check_places([(at, 5 * at % 12) for at in range(0, 12, 2)], True, True)
        self.check_places([(at, at) for at in range(12)] + [(11, 0)], False, False)
        self.check_places([(3, column) for column in range(12)], False, False)
        self.check_places([(row, 9) for row in range(12)], False, False)
        self.check_places([(3, 0), (3, 11)], False, False)
        self.check_places([(0, 9), (11, 9)], False, False)
        self.check_places(everywhere, False, True)
        self.check_places(everywhere[1:], False, False)
        self.check_places(everywhere[:-1], False, False)

    def test_a_leader_is_the_label_of_its_lines(self):
        floor = (("a", "b", "c"), ("d", "Z", "e"), ("f", "g", "h"))
        self.assertEqual(row_ring(floor), ("", "a", "Z", "f"))
        self.assertEqual(column_ring(floor), ("", "a", "Z", "c"))
        self.assertEqual([used_rows(floor), used_columns(floor)], [("Z",), ("Z",)])


class RingsAndMovesTest(unittest.TestCase):
    def exchanged(self, ring, label):
        """The ring with the gap and the label exchanged, read from the gap on in a circle."""
        other = [{"": label, label: ""}.get(text, text) for text in ring]
        return tuple(other[other.index(""):] + other[:other.index("")])

    def test_a_move_exchanges_the_gap(self):
        for floor in FLOORS:
            for row, column, name in positions_of(floor):
                if name[0] in CAPITALS:
                    after = cross(floor, name)
                    labels = [least(floor[row]), least(turned(floor)[column])]
                    self.assertEqual(row_ring(after), self.exchanged(row_ring(floor), labels[0]))
                    self.assertEqual(column_ring(after), self.exchanged(column_ring(floor), labels[1]))

    def test_a_move_keeps_what_is_used(self):
        for floor in FLOORS:
            for name in led_names([name for _, _, name in positions_of(floor)]):
                self.assertEqual(results_of(cross(floor, name))[2:], results_of(floor)[2:])


class SameAgainTest(unittest.TestCase):
    def test_same_result_and_same_arguments(self):
        before = repr(FLOORS)
        first = [results_of(floor) for floor in FLOORS]
        self.assertEqual([results_of(floor) for floor in FLOORS], first)
        self.assertEqual(repr(FLOORS), before)

    def test_arguments_by_name(self):
        floor = (("D", "c"), ("b", "A"))
        self.assertEqual([function(floor=floor) for function in FUNCTIONS], results_of(floor))

    def test_defined_in_this_file(self):
        for function in FUNCTIONS:
            self.assertEqual(function.__module__, "crossfloor.rings.rings")


class ExampleTest(unittest.TestCase):
    def test_rings(self):
        self.assertEqual(row_ring((("D", "c"), ("b", "A"))), ("", "D", "A"))
        self.assertEqual(column_ring((("D", "c"), ("b", "A"))), ("", "D", "A"))

    def test_used_rows(self):
        self.assertEqual(used_rows((("b", "c"), ("d", "A"))), ("A",))

    def test_is_matched(self):
        self.assertIs(is_matched((("A", "b"), ("c", "D"))), True)


if __name__ == "__main__":
    unittest.main()
