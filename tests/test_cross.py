"""Points 2, 4 and 5 and the interface of crossfloor/moves/cross.py."""

import itertools
import random
import unittest

from crossfloor.errors import NotLeader, UnknownItem
from crossfloor.floors.grid import check_floor
from crossfloor.moves.cross import cross, play
from tests.plain import all_moved, leaders_on, moved
from tests.samples import (
    COLUMN_OF_TWELVE, ROW_OF_TWELVE, SAMPLES, SMALL, TWELVE_BY_TWELVE,
    assert_raises, is_tuple_of_tuples, led_floor, positions_of, turned,
)

FLOORS = [floor for floor, _, _ in SAMPLES] + [TWELVE_BY_TWELVE]
SQUARE = (("A", "b", "c"), ("d", "E", "f"), ("g", "h", "I"))
WIDE = (("A", "B", "C", "D"), ("e", "F", "g", "h"), ("I", "j", "k", "L"))
SHAPES = [(1, 1), (1, 2), (2, 1), (1, 5), (5, 1), (2, 2), (3, 4), (4, 3), (1, 12), (12, 1), (12, 12)]

# Floors, leaders and the floors after their moves, written out by hand.
MOVES = [
    ((("A",),), "A", (("A",),)),
    ((("A", "b"),), "A", (("b", "A"),)),
    ((("a", "B"),), "B", (("B", "a"),)),
    ((("A",), ("b",)), "A", (("b",), ("A",))),
    ((("a",), ("B",)), "B", (("B",), ("a",))),
    ((("a", "B", "c", "d"),), "B", (("c", "d", "B", "a"),)),
    ((("a",), ("b",), ("C",), ("d",)), "C", (("d",), ("C",), ("a",), ("b",))),
    (SQUARE, "A", (("E", "f", "d"), ("h", "I", "g"), ("b", "c", "A"))),
    (SQUARE, "E", (("I", "h", "g"), ("f", "E", "d"), ("c", "b", "A"))),
    (SQUARE, "I", (("I", "g", "h"), ("c", "A", "b"), ("f", "d", "E"))),
    (WIDE, "B", (("g", "h", "F", "e"), ("k", "L", "j", "I"), ("C", "D", "B", "A"))),
    (WIDE, "C", (("h", "g", "e", "F"), ("L", "k", "I", "j"), ("D", "C", "A", "B"))),
    (WIDE, "F", (("k", "L", "j", "I"), ("g", "h", "F", "e"), ("C", "D", "B", "A"))),
    (WIDE, "L", (("L", "I", "j", "k"), ("D", "A", "B", "C"), ("h", "e", "F", "g"))),
]


def others_on(floor):
    return [name for _, _, name in positions_of(floor) if name[0] in SMALL]


def unknown_on(floor):
    """Strings that are not on the floor, the other case of its names among them."""
    names = [name for _, _, name in positions_of(floor)]
    strings = ["", " ", "\n", "Nope", "nope", "A b", "1", "x" * 3000]
    strings += [name.swapcase() for name in names] + [name.lower() for name in names]
    strings += [name.capitalize() for name in names] + [name + " " for name in names]
    return [text for text in strings if text not in names]


class CrossTest(unittest.TestCase):
    def test_written_out(self):
        for floor, name, result in MOVES:
            self.assertEqual(cross(floor, name), result)
            self.assertEqual(cross(turned(floor), name), turned(result))
            self.assertEqual(cross(result, name), floor)

    def test_twelve_in_a_row(self):
        self.assertEqual(cross(ROW_OF_TWELVE, "D"), (tuple("eFgHiJkLDaBc"),))
        self.assertEqual(cross(ROW_OF_TWELVE, "L"), (tuple("LaBcDeFgHiJk"),))
        self.assertEqual(cross(turned(ROW_OF_TWELVE), "D"), turned((tuple("eFgHiJkLDaBc"),)))

    def test_leader_at_each_place_of_each_shape(self):
        for count, width in SHAPES:
            for place in itertools.product(range(count), range(width)):
                floor = led_floor(count, width, [place])
                [leader] = leaders_on(floor)
                after = cross(floor, leader)
                self.assertEqual(after, moved(floor, leader))
                self.assertTrue(is_tuple_of_tuples(after))
                self.assertEqual(cross(after, leader), floor)

    def test_each_leader_of_each_floor(self):
        for floor in FLOORS + [SQUARE, WIDE]:
            for leader in leaders_on(floor):
                after = cross(floor, leader)
                self.assertEqual(after, moved(floor, leader))
                self.assertTrue(is_tuple_of_tuples(after))
                self.assertIs(check_floor(after), None)
                self.assertEqual(cross(after, leader), floor)

    def test_names_share_the_same_lines(self):
        for floor in FLOORS:
            for leader in leaders_on(floor):
                after = cross(floor, leader)
                for before_lines, after_lines in ((floor, after), (turned(floor), turned(after))):
                    self.assertEqual({frozenset(line) for line in before_lines},
                                     {frozenset(line) for line in after_lines})

    def test_no_leader(self):
        for floor in FLOORS:
            for name in others_on(floor):
                assert_raises(self, NotLeader, {"name": name}, cross, floor, name)

    def test_no_such_item(self):
        for floor in FLOORS:
            for name in unknown_on(floor):
                assert_raises(self, UnknownItem, {"name": name}, cross, floor, name)

    def test_the_other_case(self):
        assert_raises(self, UnknownItem, {"name": "a"}, cross, (("A", "b"),), "a")
        assert_raises(self, UnknownItem, {"name": "B"}, cross, (("A", "b"),), "B")
        self.assertEqual(cross((("Ab", "ab"),), "Ab"), (("ab", "Ab"),))
        assert_raises(self, NotLeader, {"name": "ab"}, cross, (("Ab", "ab"),), "ab")
        assert_raises(self, UnknownItem, {"name": "AB"}, cross, (("Ab", "ab"),), "AB")


class PlayTest(unittest.TestCase):
    def check_play(self, floor, names):
        after = play(floor, names)
        self.assertEqual(after, all_moved(floor, names))
        self.assertTrue(is_tuple_of_tuples(after))
        self.assertEqual(play(floor, names, reverse=False), after)
        self.assertEqual(play(floor, names, reverse=True), all_moved(floor, names[::-1]))
        self.assertEqual(play(after, names, reverse=True), floor)

    def test_no_names(self):
        for floor in FLOORS:
            self.assertEqual(play(floor, ()), floor)
            self.check_play(floor, ())

    def test_one_name(self):
        for floor in FLOORS:
            for name in leaders_on(floor):
                self.assertEqual(play(floor, (name,)), cross(floor, name))
                self.check_play(floor, (name,))

    def test_two_names(self):
        for floor in FLOORS:
            for names in itertools.product(leaders_on(floor)[:6], repeat=2):
                self.check_play(floor, names)

    def test_the_order_counts(self):
        floor = (("A", "B", "c"),)
        self.assertEqual(play(floor, ("A", "B")), (("c", "A", "B"),))
        self.assertEqual(play(floor, ("B", "A")), (("A", "c", "B"),))
        self.assertEqual(play(floor, ("A", "B"), reverse=True), (("A", "c", "B"),))

    def test_sixty_names(self):
        source = random.Random(60)
        for floor in FLOORS:
            if leaders_on(floor):
                self.check_play(floor, tuple(source.choices(leaders_on(floor), k=60)))

    def test_all_leaders_many_times(self):
        for floor in (ROW_OF_TWELVE, COLUMN_OF_TWELVE, WIDE, TWELVE_BY_TWELVE):
            names = tuple(leaders_on(floor))
            self.check_play(floor, names * 30)
            self.check_play(floor, names[::-1] * 31)

    def test_five_thousand_names(self):
        floor = led_floor(12, 12, list(itertools.product(range(12), repeat=2)))
        names = tuple(leaders_on(floor)) * 35
        self.check_play(floor, names[:5000])

    def check_wrong(self, kind, name, floor, names):
        for keywords in ({}, {"reverse": False}, {"reverse": True}):
            def call(floor, names):
                return play(floor, names, **keywords)
            assert_raises(self, kind, {"name": name}, call, floor, names)

    def test_one_wrong_name(self):
        right = ("A", "E", "I", "A", "E")
        for name in others_on(SQUARE) + unknown_on(SQUARE):
            kind = NotLeader if name in others_on(SQUARE) else UnknownItem
            for at in range(len(right) + 1):
                self.check_wrong(kind, name, SQUARE, right[:at] + (name,) + right[at:])
            self.check_wrong(kind, name, SQUARE, (name,))

    def test_first_of_two_wrong_names(self):
        wrong = [("b", NotLeader), ("h", NotLeader), ("", UnknownItem), ("a", UnknownItem), ("Zz", UnknownItem)]
        for (one, kind), (two, _) in itertools.permutations(wrong, 2):
            for names in ((one, two), ("A", one, "E", two), (one, "A", "I", two), ("A", one, two, "E")):
                self.check_wrong(kind, one, SQUARE, names)

    def test_wrong_name_behind_many_moves(self):
        names = tuple(leaders_on(TWELVE_BY_TWELVE)) * 20
        for name, kind in (("nope", UnknownItem), (others_on(TWELVE_BY_TWELVE)[0], NotLeader)):
            self.check_wrong(kind, name, TWELVE_BY_TWELVE, names + (name,))

    def test_no_leaders(self):
        for floor in ((("a",),), (("a", "b"), ("c", "d"))):
            self.assertEqual(play(floor, ()), floor)
            self.check_wrong(NotLeader, "a", floor, ("a",))
            self.check_wrong(UnknownItem, "A", floor, ("A",))


class SameAgainTest(unittest.TestCase):
    def test_same_result_and_same_arguments(self):
        before = repr(FLOORS)

        def results():
            return [[play(floor, tuple(leaders_on(floor)), reverse=way) for way in (False, True)]
                    + [cross(floor, name) for name in leaders_on(floor)] for floor in FLOORS]
        self.assertEqual(results(), results())
        self.assertEqual(repr(FLOORS), before)

    def test_same_after_an_error(self):
        for _ in range(3):
            assert_raises(self, NotLeader, {"name": "b"}, play, SQUARE, ("A", "b"))
            assert_raises(self, UnknownItem, {"name": "B"}, cross, SQUARE, "B")
            self.assertEqual(play(SQUARE, ("A", "E")), all_moved(SQUARE, ("A", "E")))

    def test_arguments_by_name(self):
        self.assertEqual(cross(name="A", floor=(("A", "b"),)), (("b", "A"),))
        self.assertEqual(play(reverse=True, names=("A",), floor=(("A", "b"),)), (("b", "A"),))

    def test_reverse_is_passed_by_keyword(self):
        with self.assertRaises(TypeError):
            play((("A", "b"),), ("A",), True)

    def test_defined_in_this_file(self):
        for function in (cross, play):
            self.assertEqual(function.__module__, "crossfloor.moves.cross")


class ExampleTest(unittest.TestCase):
    def test_cross(self):
        self.assertEqual(cross((("a", "b", "c"), ("d", "E", "f"), ("g", "h", "i")), "E"),
                         (("i", "h", "g"), ("f", "E", "d"), ("c", "b", "a")))
        self.assertEqual(cross((("A", "b", "c"),), "A"), (("b", "c", "A"),))
        assert_raises(self, NotLeader, {"name": "b"}, cross, (("A", "b"),), "b")

    def test_play(self):
        self.assertEqual(play((("A", "B", "c"),), ("A", "B")), (("c", "A", "B"),))


if __name__ == "__main__":
    unittest.main()
