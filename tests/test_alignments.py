"""Points 2, 6 and 9 and the interface of crossfloor/rings/alignments.py."""

import itertools
import random
import unittest

from crossfloor.errors import NotRearranged
from crossfloor.moves.cross import play
from crossfloor.rings.alignments import column_alignments, row_alignments
from tests.plain import rearranged, row_alignments_of
from tests.samples import (
    CAPITALS, COLUMN_OF_TWELVE, ROW_OF_TWELVE, SAMPLES, TWELVE_BY_TWELVE,
    assert_raises, changed, led_floor, positions_of, reordered, turned,
)

FLOORS = [floor for floor, _, _ in SAMPLES] + [TWELVE_BY_TWELVE]
THREE_BY_FOUR = (("A", "b", "c", "D"), ("e", "F", "g", "h"), ("I", "j", "k", "l"))
# Each of them has at least two rows and two columns.
WIDE_FLOORS = [THREE_BY_FOUR, turned(THREE_BY_FOUR), (("A", "B"), ("C", "D")), (("a", "b"), ("c", "d")),
               (("a", "B", "c"), ("d", "e", "F")), TWELVE_BY_TWELVE, led_floor(12, 12, [(0, 0), (11, 11)])]


def orders_of(count, source):
    """Some orders of so many lines: as they are, from the last on, turned by one, any."""
    lines = list(range(count))
    return [lines, lines[::-1], lines[1:] + lines[:1], source.sample(lines, count)]


def rearrangements_of(floor):
    """Some rearrangements of the floor, itself first."""
    source = random.Random(len(floor))
    rows = orders_of(len(floor), source)
    columns = orders_of(len(floor[0]), source)
    return [reordered(floor, one, two) for one, two in itertools.product(rows, columns)]


def with_two_exchanged(floor, one, two):
    """The floor with the items of two places exchanged."""
    after = changed(floor, *one, floor[two[0]][two[1]])
    return changed(after, *two, floor[one[0]][one[1]])


class AlignmentsTest(unittest.TestCase):
    def check_pair(self, start, goal):
        self.assertTrue(rearranged(start, goal))
        rows, columns = row_alignments(start, goal), column_alignments(start, goal)
        self.assertEqual(rows, row_alignments_of(start, goal))
        self.assertEqual(columns, row_alignments_of(turned(start), turned(goal)))
        self.assertEqual([len(rows), len(columns)], [len(start) + 1, len(start[0]) + 1])
        for alignments in (rows, columns):
            self.check_kinds(alignments)

    def check_kinds(self, alignments):
        self.assertIs(type(alignments), tuple)
        for alignment in alignments:
            self.assertIs(type(alignment), tuple)
            self.assertEqual([pair for pair in alignment if type(pair) is not tuple or len(pair) != 2], [])
            firsts = [one for one, _ in alignment]
            self.assertEqual(firsts, sorted(set(firsts)))
            self.assertEqual(firsts, sorted(two for _, two in alignment))
            self.assertEqual([text for pair in alignment for text in pair if type(text) is not str], [])

    def test_one_cell(self):
        for name in ("a", "A"):
            both = ((("", ""), (name, name)), (("", name), (name, "")))
            self.assertEqual(row_alignments(((name,),), ((name,),)), both)
            self.assertEqual(column_alignments(((name,),), ((name,),)), both)

    def test_one_row_written_out(self):
        start, goal = (("c", "A", "b"),), (("b", "c", "A"),)
        self.assertEqual(row_alignments(start, goal), ((("", ""), ("A", "A")), (("", "A"), ("A", ""))))
        self.assertEqual(column_alignments(start, goal), (
            (("", ""), ("A", "c"), ("b", "A"), ("c", "b")),
            (("", "b"), ("A", "A"), ("b", ""), ("c", "c")),
            (("", "c"), ("A", ""), ("b", "b"), ("c", "A")),
            (("", "A"), ("A", "b"), ("b", "c"), ("c", "")),
        ))

    def test_two_by_two_written_out(self):
        start, goal = (("D", "c"), ("b", "A")), (("A", "b"), ("c", "D"))
        expected = ((("", ""), ("A", "D"), ("D", "A")), (("", "A"), ("A", ""), ("D", "D")),
                    (("", "D"), ("A", "A"), ("D", "")))
        self.assertEqual(row_alignments(start, goal), expected)
        self.assertEqual(column_alignments(start, goal), expected)

    def test_rows_and_columns_differ(self):
        start, goal = (("a", "b"), ("c", "d")), (("c", "d"), ("a", "b"))
        self.assertEqual(row_alignments(start, goal)[0], (("", ""), ("a", "c"), ("c", "a")))
        self.assertEqual(column_alignments(start, goal)[0], (("", ""), ("a", "a"), ("b", "b")))
        self.assertEqual(row_alignments(goal, start)[1], (("", "a"), ("a", ""), ("c", "c")))

    def test_a_floor_and_itself(self):
        for floor in FLOORS + WIDE_FLOORS:
            self.check_pair(floor, floor)
            same = {text: text for text in [""] + [min(names) for names in floor]}
            self.assertEqual(dict(row_alignments(floor, floor)[0]), same)

    def test_rearrangements(self):
        for floor in [(("a",),), ROW_OF_TWELVE, COLUMN_OF_TWELVE, *WIDE_FLOORS]:
            for goal in rearrangements_of(floor):
                self.check_pair(floor, goal)
                self.check_pair(goal, floor)

    def test_all_orders_of_a_small_floor(self):
        for rows in itertools.permutations(range(3)):
            for columns in itertools.permutations(range(4)):
                self.check_pair(THREE_BY_FOUR, reordered(THREE_BY_FOUR, rows, columns))

    def test_after_moves(self):
        source = random.Random(9)
        for floor in FLOORS + WIDE_FLOORS:
            leaders = [name for _, _, name in positions_of(floor) if name[0] in CAPITALS]
            if leaders:
                self.check_pair(floor, play(floor, tuple(source.choices(leaders, k=20))))


class NotRearrangedTest(unittest.TestCase):
    def check_none(self, start, goal):
        for one, two in ((start, goal), (goal, start)):
            for function in (row_alignments, column_alignments):
                assert_raises(self, NotRearranged, {}, function, one, two)

    def test_another_name(self):
        for floor in FLOORS + WIDE_FLOORS:
            for row, column, name in (positions_of(floor)[0], positions_of(floor)[-1]):
                for other in ("nope", "Nope", name.swapcase()):
                    if other not in [text for _, _, text in positions_of(floor)]:
                        self.check_none(floor, changed(floor, row, column, other))

    def test_two_items_exchanged(self):
        for floor in WIDE_FLOORS:
            last = (len(floor) - 1, len(floor[0]) - 1)
            for one, two in (((0, 0), last), ((0, 0), (1, 1)), ((0, 1), (1, 0)),
                             ((0, 0), (0, 1)), ((last[0], 0), last), ((0, 0), (1, 0)), ((0, last[1]), last)):
                self.check_none(floor, with_two_exchanged(floor, one, two))

    def test_two_items_of_one_row_or_column_alone(self):
        goal = with_two_exchanged(ROW_OF_TWELVE, (0, 2), (0, 7))
        self.assertEqual(column_alignments(ROW_OF_TWELVE, goal), row_alignments_of(turned(ROW_OF_TWELVE), turned(goal)))
        self.assertEqual(row_alignments(turned(goal), turned(ROW_OF_TWELVE)),
                         row_alignments_of(turned(goal), turned(ROW_OF_TWELVE)))

    def test_another_shape_of_the_same_items(self):
        names = [name for _, _, name in positions_of(THREE_BY_FOUR)]
        shapes = [tuple(tuple(names[at:at + width]) for at in range(0, 12, width)) for width in (1, 2, 3, 4, 6, 12)]
        for one, two in itertools.combinations(shapes, 2):
            self.check_none(one, two)

    def test_transposed(self):
        for floor in FLOORS + WIDE_FLOORS:
            if len(floor) > 1 or len(floor[0]) > 1:
                self.check_none(floor, turned(floor))

    def test_a_line_less(self):
        for floor in WIDE_FLOORS:
            for less in (floor[1:], floor[:-1], turned(turned(floor)[1:]), turned(turned(floor)[:-1])):
                self.check_none(floor, less)
        for floor in (ROW_OF_TWELVE, COLUMN_OF_TWELVE):
            lines = floor if len(floor) > 1 else turned(floor)
            for less in (lines[1:], lines[:-1]):
                self.check_none(lines, less)
                self.check_none(turned(lines), turned(less))

    def test_one_row_turned(self):
        for floor in WIDE_FLOORS:
            self.check_none(floor, (floor[0][1:] + floor[0][:1],) + floor[1:])
            lines = turned(floor)
            self.check_none(floor, turned((lines[0][1:] + lines[0][:1],) + lines[1:]))

    def test_all_goals_of_the_same_items(self):
        for start in ((("A", "b"), ("c", "D")), (("a", "B", "c"), ("d", "e", "F")), (("A", "b", "c", "d"),)):
            names = [name for _, _, name in positions_of(start)]
            found = 0
            for order in itertools.permutations(names):
                width = len(start[0])
                goal = tuple(order[at:at + width] for at in range(0, len(names), width))
                if rearranged(start, goal):
                    found += 1
                    self.assertEqual(row_alignments(start, goal), row_alignments_of(start, goal))
                    self.assertEqual(column_alignments(start, goal), row_alignments_of(turned(start), turned(goal)))
                else:
                    self.check_none(start, goal)
            self.assertEqual(found, {(2, 2): 4, (2, 3): 12, (1, 4): 24}[len(start), len(start[0])])


class SameAgainTest(unittest.TestCase):
    def test_same_result_and_same_arguments(self):
        pairs = [(floor, goal) for floor in WIDE_FLOORS for goal in rearrangements_of(floor)]
        before = repr(pairs)
        first = [[row_alignments(*pair), column_alignments(*pair)] for pair in pairs]
        again = [[row_alignments(*pair), column_alignments(*pair)] for pair in pairs]
        self.assertEqual(first, again)
        self.assertEqual(repr(pairs), before)

    def test_same_after_an_error(self):
        floor = (("a", "b"), ("c", "d"))
        for _ in range(3):
            assert_raises(self, NotRearranged, {}, row_alignments, floor, turned(floor))
            self.assertEqual(row_alignments(floor, floor), row_alignments_of(floor, floor))

    def test_arguments_by_name(self):
        start, goal = (("a",), ("b",)), (("b",), ("a",))
        for function in (row_alignments, column_alignments):
            self.assertEqual(function(goal=goal, start=start), function(start, goal))

    def test_defined_in_this_file(self):
        for function in (row_alignments, column_alignments):
            self.assertEqual(function.__module__, "crossfloor.rings.alignments")


class ExampleTest(unittest.TestCase):
    def test_row_alignments(self):
        self.assertEqual(row_alignments((("a",), ("b",)), (("b",), ("a",))), (
            (("", ""), ("a", "b"), ("b", "a")), (("", "b"), ("a", "a"), ("b", "")), (("", "a"), ("a", ""), ("b", "b"))))


if __name__ == "__main__":
    unittest.main()
