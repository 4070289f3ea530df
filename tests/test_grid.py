"""Points 2, 3 and 4 and the interface of crossfloor/floors/grid.py."""

import itertools
import unittest

from crossfloor.errors import UnknownItem
from crossfloor.floors import grid
from crossfloor.floors.grid import check_floor, leaders_of, locate
from tests.samples import (
    CAPITALS, CHARACTERS, COLUMN_OF_TWELVE, ROW_OF_TWELVE, SAMPLES, SMALL, TWELVE_BY_TWELVE,
    assert_bad_floor, assert_raises, changed, positions_of, wrong_position,
)

FLOORS = [floor for floor, _, _ in SAMPLES] + [TWELVE_BY_TWELVE]
SQUARE = (("A", "b", "c"), ("d", "E", "f"), ("g", "h", "I"))
NO_NAMES = ["", "1", "a1", "1a", " ", "a ", " a", "a b", "\n", "a\n", "\na", "-", "a-b", "+a", "_", "a_",
            "AB", "aB", "abC", "aBc", "abcdeF", "ABCDEF", "abcdefg", "Abcdefg", "abcdefG", "a" * 3000, "A" * 3000]
NAMES = ["a", "z", "A", "Z", "ab", "Ab", "mno", "Mnop", "qrstu", "abcdef", "Abcdef", "zzzzzz", "Zzzzzz"]


def many_rows(count, width):
    """A table of names of any size: the positions are its letters, counted in twenty-sixes."""
    def name(row, column):
        at = row * width + column
        return SMALL[at // 676] + SMALL[at // 26 % 26] + SMALL[at % 26]
    return tuple(tuple(name(row, column) for column in range(width)) for row in range(count))


class RightFloorTest(unittest.TestCase):
    def test_check_returns_none(self):
        for floor in FLOORS:
            self.assertIs(check_floor(floor), None)

    def test_every_shape_up_to_twelve(self):
        for count, width in itertools.product(range(1, 13), repeat=2):
            self.assertIs(check_floor(many_rows(count, width)), None)

    def test_names_of_one_to_six_letters(self):
        for name in NAMES:
            for row, column, _ in positions_of(((0, 0), (0, 0))):
                floor = changed((("q", "r"), ("s", "t")), row, column, name)
                self.assertIs(check_floor(floor), None)
                self.assertEqual(locate(floor, name), (row, column))

    def test_every_letter(self):
        for letter in SMALL + CAPITALS:
            self.assertIs(check_floor(((letter,),)), None)
        for letter in SMALL:
            self.assertIs(check_floor((("A" + letter, "a" + letter + letter),)), None)

    def test_most_lines(self):
        self.assertEqual(grid.MOST_LINES, 12)
        self.assertIs(type(grid.MOST_LINES), int)

    def test_locate_gives_each_position(self):
        for floor in FLOORS:
            for row, column, name in positions_of(floor):
                place = locate(floor, name)
                self.assertEqual(place, (row, column))
                self.assertEqual([type(place), type(place[0]), type(place[1])], [tuple, int, int])

    def test_leaders_in_ascending_order(self):
        for floor, _, leaders in SAMPLES:
            self.assertEqual(leaders_of(floor), leaders)
            self.assertIs(type(leaders_of(floor)), tuple)

    def test_leaders_of_a_large_floor(self):
        expected = [name for _, _, name in positions_of(TWELVE_BY_TWELVE) if name[0] in CAPITALS]
        self.assertEqual(len(expected), 29)
        self.assertEqual(leaders_of(TWELVE_BY_TWELVE), tuple(sorted(expected)))

    def test_every_capital_leads_and_no_small_letter(self):
        for first in range(0, 26, 2):
            two = CAPITALS[first:first + 2]
            self.assertEqual(leaders_of(((two[1], two[1].lower()), (two[0], two[0].lower()))), tuple(two))

    def test_defined_in_this_file(self):
        for function in (check_floor, locate, leaders_of):
            self.assertEqual(function.__module__, "crossfloor.floors.grid")


class WrongStringTest(unittest.TestCase):
    def test_no_name_at_any_position(self):
        for text in NO_NAMES:
            for row, column, _ in positions_of(SQUARE):
                assert_bad_floor(self, (row, column), check_floor, changed(SQUARE, row, column, text))

    def test_no_name_at_the_ends_of_large_floors(self):
        for floor in (ROW_OF_TWELVE, COLUMN_OF_TWELVE, TWELVE_BY_TWELVE):
            last = (len(floor) - 1, len(floor[0]) - 1)
            for text in NO_NAMES:
                for place in ((0, 0), last):
                    assert_bad_floor(self, place, check_floor, changed(floor, *place, text))

    def check_string(self, text, is_name):
        for row, column, _ in positions_of(SQUARE):
            floor = changed(SQUARE, row, column, text)
            if is_name:
                self.assertIs(check_floor(floor), None)
            else:
                assert_bad_floor(self, (row, column), check_floor, floor)

    def test_each_character_in_place_of_a_name(self):
        for character in CHARACTERS:
            names = [name for _, _, name in positions_of(SQUARE)]
            if character not in names:
                self.check_string(character, character in SMALL + CAPITALS)

    def test_each_character_before_a_name(self):
        for character in CHARACTERS:
            self.check_string(character + "xy", character in SMALL + CAPITALS)
            self.check_string(character + "Xy", False)

    def test_each_character_as_second_character(self):
        for character in CHARACTERS:
            self.check_string("x" + character + "y", character in SMALL)
            self.check_string("X" + character + "y", character in SMALL)

    def test_each_character_behind_a_name(self):
        for character in CHARACTERS:
            self.check_string("xy" + character, character in SMALL)
            self.check_string("Vwxyz" + character, character in SMALL)
            self.check_string("uvwxyz" + character, False)

    def test_first_of_several_wrong_strings(self):
        places = [(row, column) for row, column, _ in positions_of(SQUARE)]
        for first, second in itertools.combinations(places, 2):
            for one, two in (("", "1"), ("1", ""), ("aB", "aB")):
                floor = changed(changed(SQUARE, *first, one), *second, two)
                assert_bad_floor(self, first, check_floor, floor)


class NameTwiceTest(unittest.TestCase):
    def test_the_later_position_is_reported(self):
        for one, two in itertools.combinations(positions_of(SQUARE), 2):
            floor = changed(SQUARE, two[0], two[1], one[2])
            assert_bad_floor(self, two[:2], check_floor, floor)
            floor = changed(SQUARE, one[0], one[1], two[2])
            assert_bad_floor(self, two[:2], check_floor, floor)

    def test_twice_on_a_large_floor(self):
        for place in ((0, 11), (6, 6), (11, 0), (11, 11)):
            floor = changed(TWELVE_BY_TWELVE, *place, TWELVE_BY_TWELVE[0][0])
            assert_bad_floor(self, place, check_floor, floor)

    def test_three_times(self):
        assert_bad_floor(self, (0, 1), check_floor, (("a", "a", "a"),))
        assert_bad_floor(self, (1, 0), check_floor, (("a", "b"), ("a", "c"), ("a", "d")))

    def test_two_names_that_stand_twice(self):
        assert_bad_floor(self, (1, 0), check_floor, (("a", "b"), ("b", "a")))

    def test_before_and_behind_a_wrong_string(self):
        assert_bad_floor(self, (0, 1), check_floor, (("a", "a"), ("1", "b")))
        assert_bad_floor(self, (0, 1), check_floor, (("a", "1"), ("a", "b")))

    def test_before_and_behind_a_wrong_shape(self):
        assert_bad_floor(self, (1, 1), check_floor, (("a", "b"), ("c", "a"), ("d",)))
        assert_bad_floor(self, (1, 1), check_floor, (("a", "b"), ("c",), ("a", "d")))
        assert_bad_floor(self, (1, 2), check_floor, (("a", "b"), ("c", "d", "a")))
        assert_bad_floor(self, (1, 0), check_floor, (("a", "b"), ("a", "d", "e")))

    def test_other_case_is_another_name(self):
        self.assertIs(check_floor((("Ab", "ab"), ("B", "b"))), None)
        self.assertIs(check_floor((("ab", "abc"), ("abcd", "a"))), None)


class ShapeTest(unittest.TestCase):
    def test_no_row(self):
        assert_bad_floor(self, (0, 0), check_floor, ())

    def test_row_0_empty(self):
        for others in ((), ((),), (("a",),), (("a", "b"), ("c", "d")), (("", "1"),), (("a",), (), ("a", "b")),
                       many_rows(12, 1), many_rows(13, 13)):
            assert_bad_floor(self, (0, 0), check_floor, ((),) + others)

    def test_shorter_row(self):
        for count in range(3):
            floor = (("a", "b", "c"), ("d", "e", "f")[:count], ("g", "h", "i"))
            assert_bad_floor(self, (1, count), check_floor, floor)
            assert_bad_floor(self, (2, count), check_floor, (floor[0], floor[2], floor[1]))

    def test_longer_row(self):
        for count in range(3, 8):
            floor = (("a", "b"), ("c", "d"), ("e", "f", "g", "h", "i", "j", "k")[:count], ("l", "m"))
            assert_bad_floor(self, (2, 2), check_floor, floor)

    def test_shorter_row_beside_wrong_strings(self):
        assert_bad_floor(self, (0, 1), check_floor, (("a", "1"), ("b",), ("c", "d")))
        assert_bad_floor(self, (1, 0), check_floor, (("a", "b"), ("1",), ("c", "d")))
        assert_bad_floor(self, (1, 1), check_floor, (("a", "b"), ("c",), ("1", "d")))
        assert_bad_floor(self, (1, 1), check_floor, (("a", "b", "x"), ("c",), ("", "d", "e")))

    def test_longer_row_beside_wrong_strings(self):
        assert_bad_floor(self, (0, 1), check_floor, (("a", "1"), ("b", "c", "d")))
        assert_bad_floor(self, (1, 1), check_floor, (("a", "b"), ("c", "1", "d")))
        assert_bad_floor(self, (1, 2), check_floor, (("a", "b"), ("c", "d", "1")))
        assert_bad_floor(self, (1, 2), check_floor, (("a", "b"), ("c", "d", "e", "1")))
        assert_bad_floor(self, (1, 2), check_floor, (("a", "b"), ("c", "d", "e"), ("1", "f")))

    def test_empty_row_below_row_0(self):
        assert_bad_floor(self, (1, 0), check_floor, (("a",), ()))
        assert_bad_floor(self, (2, 0), check_floor, (("a", "b"), ("c", "d"), (), ("e", "f")))
        assert_bad_floor(self, (1, 0), check_floor, (("a", "b"), (), ("1", "f")))
        assert_bad_floor(self, (0, 1), check_floor, (("a", ""), (), ("e", "f")))

    def test_thirteen_rows(self):
        for width in (1, 2, 12):
            floor = many_rows(13, width)
            assert_bad_floor(self, (12, 0), check_floor, floor)
            assert_bad_floor(self, (12, 0), check_floor, floor[:12] + ((),))
            assert_bad_floor(self, (12, 0), check_floor, floor[:12] + (("",) * 14,))
            assert_bad_floor(self, (12, 0), check_floor, changed(floor, 12, 0, floor[0][0]))
            assert_bad_floor(self, (12, 0), check_floor, many_rows(20, width))

    def test_thirteen_columns(self):
        for count in (1, 2, 12):
            floor = many_rows(count, 13)
            assert_bad_floor(self, (0, 12), check_floor, floor)
            assert_bad_floor(self, (0, 12), check_floor, changed(floor, 0, 12, ""))
            assert_bad_floor(self, (0, 12), check_floor, many_rows(count, 20))

    def test_thirteen_columns_in_one_row(self):
        floor = many_rows(3, 12)
        for row in (1, 2):
            longer = floor[:row] + (floor[row] + ("x",),) + floor[row + 1:]
            assert_bad_floor(self, (row, 12), check_floor, longer)
        assert_bad_floor(self, (0, 12), check_floor, (floor[0] + ("x",),) + floor[1:])
        assert_bad_floor(self, (1, 2), check_floor, (("a", "b"), many_rows(1, 13)[0]))

    def test_thirteen_rows_and_columns(self):
        assert_bad_floor(self, (0, 12), check_floor, many_rows(13, 13))

    def test_too_many_lines_beside_wrong_strings(self):
        tall, wide, both = many_rows(13, 3), many_rows(3, 13), many_rows(13, 13)
        for text in ("", "1", "aB"):
            assert_bad_floor(self, (0, 2), check_floor, changed(tall, 0, 2, text))
            assert_bad_floor(self, (11, 2), check_floor, changed(tall, 11, 2, text))
            assert_bad_floor(self, (12, 0), check_floor, changed(tall, 12, 0, text))
            assert_bad_floor(self, (12, 0), check_floor, changed(tall, 12, 2, text))
            assert_bad_floor(self, (0, 11), check_floor, changed(wide, 0, 11, text))
            assert_bad_floor(self, (0, 12), check_floor, changed(wide, 0, 12, text))
            assert_bad_floor(self, (0, 12), check_floor, changed(wide, 1, 0, text))
            assert_bad_floor(self, (0, 5), check_floor, changed(both, 0, 5, text))
            assert_bad_floor(self, (0, 12), check_floor, changed(both, 12, 12, text))

    def test_all_small_tables(self):
        lines = [line for width in range(3) for line in itertools.product(("a", "B", ""), repeat=width)]
        tables = [table for count in range(4) for table in itertools.product(lines, repeat=count)]
        self.assertEqual(len(tables), 2380)
        for table in tables:
            place = wrong_position(table)
            if place is None:
                self.assertIs(check_floor(table), None)
            else:
                assert_bad_floor(self, place, check_floor, table)


class LocateTest(unittest.TestCase):
    def test_no_such_item(self):
        for floor in FLOORS:
            for name in ("", "nope", "Nope", " ", "1", "\n", "x" * 3000):
                assert_raises(self, UnknownItem, {"name": name}, locate, floor, name)

    def test_the_other_case(self):
        for name, other in (("A", "a"), ("b", "B"), ("c", "C"), ("D", "d")):
            self.assertIsInstance(locate((("A", "b"), ("c", "D")), name), tuple)
            assert_raises(self, UnknownItem, {"name": other}, locate, (("A", "b"), ("c", "D")), other)
        self.assertEqual(locate((("Ab", "ab"),), "ab"), (0, 1))
        self.assertEqual(locate((("ab", "Ab"),), "ab"), (0, 0))
        assert_raises(self, UnknownItem, {"name": "AB"}, locate, (("Ab", "ab"),), "AB")

    def test_a_part_of_a_name_is_not_there(self):
        for name in ("A", "bc", "Ab", "Abcd", "c", "d e", "Abc d"):
            assert_raises(self, UnknownItem, {"name": name}, locate, (("Abc", "d"), ("e", "f")), name)


class SameAgainTest(unittest.TestCase):
    def test_same_result_and_same_arguments(self):
        before = repr(FLOORS)
        first = [[check_floor(floor), leaders_of(floor), locate(floor, floor[-1][0])] for floor in FLOORS]
        again = [[check_floor(floor), leaders_of(floor), locate(floor, floor[-1][0])] for floor in FLOORS]
        self.assertEqual(first, again)
        self.assertEqual(repr(FLOORS), before)

    def test_same_error_again(self):
        for _ in range(3):
            assert_bad_floor(self, (1, 1), check_floor, (("A", "b"), ("c", "A")))
            self.assertIs(check_floor((("A", "b"), ("c", "D"))), None)
            assert_raises(self, UnknownItem, {"name": "e"}, locate, (("A", "b"), ("c", "D")), "e")

    def test_arguments_by_name(self):
        floor = (("A", "b"),)
        self.assertIs(check_floor(floor=floor), None)
        self.assertEqual(locate(floor=floor, name="b"), (0, 1))
        self.assertEqual(leaders_of(floor=floor), ("A",))


class ExampleTest(unittest.TestCase):
    def test_check_floor(self):
        assert_bad_floor(self, (1, 1), check_floor, (("A", "b"), ("c", "A")))

    def test_locate(self):
        self.assertEqual(locate((("A", "b"), ("c", "D")), "c"), (1, 0))

    def test_leaders_of(self):
        self.assertEqual(leaders_of((("D", "b"), ("c", "A"))), ("A", "D"))


if __name__ == "__main__":
    unittest.main()
