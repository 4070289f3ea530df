"""Points 2, 5, 10 and 13 and the interface of crossfloor/reach/routes.py."""

import itertools
import random
import unittest

from crossfloor.moves.cross import play
from crossfloor.reach.routes import find_route
from tests.plain import all_moved, all_orders, leaders_on, reasons_between, shortest_routes
from tests.samples import (
    GREAT, REASONS, SAMPLES, SEARCHED, TWELVE_BY_TWELVE,
    assert_unreachable, changed, led_floor, reordered, turned,
)

FLOORS = [floor for floor, _, _ in SAMPLES] + [TWELVE_BY_TWELVE] + list(GREAT.values())
MOST_MOVES = 500


class FindRouteTest(unittest.TestCase):
    def check_route(self, start, goal):
        route = find_route(start, goal)
        self.assertIs(type(route), tuple)
        self.assertEqual([name for name in route if type(name) is not str], [])
        self.assertLessEqual(len(route), MOST_MOVES)
        self.assertEqual(set(route) - set(leaders_on(start)), set())
        self.assertEqual(play(start, route), goal, (start, goal, route))
        if start == goal:
            self.assertEqual(route, ())

    def goals_after(self, floor, numbers):
        source = random.Random(len(floor) + 5)
        leaders = leaders_on(floor)
        for many in numbers if leaders else (0,):
            yield all_moved(floor, source.choices(leaders, k=many))

    def test_every_goal_of_small_floors(self):
        for start in SEARCHED:
            for goal in shortest_routes(start):
                self.check_route(start, goal)

    def test_equal_floors(self):
        for floor in FLOORS + SEARCHED:
            self.assertEqual(find_route(floor, floor), ())

    def test_after_up_to_a_hundred_moves(self):
        for floor in FLOORS:
            for goal in self.goals_after(floor, (1, 2, 3, 10, 37, 99, 100)):
                self.check_route(floor, goal)
                self.check_route(goal, floor)

    def test_hand_written_goals(self):
        for start, goal, reason in REASONS:
            if reason is None:
                self.check_route(start, goal)

    def test_rings_that_are_only_turned(self):
        lines = list(range(12))
        turns = [lines[at:] + lines[:at] for at in range(12)]
        found = 0
        for floor in GREAT.values():
            for rows, columns in [(turn, lines) for turn in turns] + [(lines, turn) for turn in turns] + \
                    [(turn, turn) for turn in turns]:
                goal = reordered(floor, rows, columns)
                if find_or_none(floor, goal) is not None:
                    found += goal != floor
                    self.check_route(floor, goal)
        self.assertGreater(found, 60)

    def test_leaders_only_in_every_order(self):
        source = random.Random(6)
        for count, width in ((12, 12), (1, 12), (12, 1), (12, 11), (7, 12), (2, 2), (2, 11)):
            floor = led_floor(count, width, list(itertools.product(range(count), range(width))))
            found = 0
            for _ in range(30):
                goal = reordered(floor, source.sample(range(count), count), source.sample(range(width), width))
                if find_or_none(floor, goal) is not None:
                    found += 1
                    self.check_route(floor, goal)
            self.assertGreater(found, 8, (count, width))

    def test_far_goals_of_scattered_leaders(self):
        source = random.Random(7)
        for many in (2, 3, 5, 8, 13, 21, 34, 55, 89):
            places = source.sample(list(itertools.product(range(12), repeat=2)), many)
            floor = led_floor(12, 12, places)
            for goal in self.goals_after(floor, (100, 100, 100)):
                self.check_route(floor, goal)

    def test_every_shape(self):
        source = random.Random(8)
        for count, width in itertools.product((1, 2, 3, 5, 11, 12), repeat=2):
            places = list(itertools.product(range(count), range(width)))
            floor = led_floor(count, width, source.sample(places, (len(places) + 1) // 2))
            for goal in self.goals_after(floor, (3, 50)):
                self.check_route(floor, goal)


def find_or_none(start, goal):
    """A route, or None if the program says that there is none."""
    try:
        return find_route(start, goal)
    except ValueError:
        return None


class UnreachableTest(unittest.TestCase):
    def check_none(self, start, goal):
        assert_unreachable(self, start, goal, find_route, start, goal)

    def test_each_kind_of_reason(self):
        for start, goal, reason in REASONS:
            if reason is not None:
                self.check_none(start, goal)
                self.check_none(turned(start), turned(goal))

    def test_every_other_order_of_small_floors(self):
        for start in SEARCHED:
            reached = shortest_routes(start)
            for goal in all_orders(start):
                if goal not in reached:
                    self.check_none(start, goal)

    def test_reason_against_the_words_of_the_document(self):
        for start, goal, reason in REASONS:
            if reason is not None:
                with self.assertRaises(ValueError) as caught:
                    find_route(start, goal)
                self.assertIn(caught.exception.reason, reasons_between(start, goal))

    def test_great_floors(self):
        for name, floor in GREAT.items():
            self.check_none(floor, turned(floor))
            self.check_none(floor, floor[:-1])
            self.check_none(floor[:-1], floor)
            self.check_none(floor, changed(floor, 11, 11, "zzzzzz"))
            self.check_none(floor, changed(changed(floor, 0, 0, floor[0][1]), 0, 1, floor[0][0]))
            one = reordered(floor, [1, 0, *range(2, 12)], range(12))
            two = reordered(floor, range(12), [1, 0, *range(2, 12)])
            if name in ("none", "one", "matched", "matched in part", "part of a row", "part of a column", "a few"):
                self.check_none(floor, one)
                self.check_none(floor, two)


class SameAgainTest(unittest.TestCase):
    def test_same_result_and_same_arguments(self):
        pairs = [(floor, all_moved(floor, leaders_on(floor)[:9])) for floor in FLOORS]
        before = repr(pairs)
        first = [find_route(*pair) for pair in pairs]
        again = [find_route(*pair) for pair in pairs]
        self.assertEqual(first, again)
        self.assertEqual(repr(pairs), before)

    def test_arguments_by_name(self):
        self.assertEqual(find_route(goal=(("b", "A"),), start=(("A", "b"),)), ("A",))

    def test_defined_in_this_file(self):
        self.assertEqual(find_route.__module__, "crossfloor.reach.routes")


class ExampleTest(unittest.TestCase):
    def test_find_route(self):
        self.assertEqual(find_route((("A", "b"), ("c", "d")), (("A", "b"), ("c", "d"))), ())


if __name__ == "__main__":
    unittest.main()
