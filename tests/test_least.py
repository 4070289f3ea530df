"""Points 2, 5, 7, 11 and 12 and the interface of crossfloor/reach/least.py."""

import random
import unittest

from crossfloor.errors import NotClear
from crossfloor.moves.cross import cross, play
from crossfloor.reach.least import first_route, least_moves
from tests.plain import (
    all_moved, all_orders, is_matched_floor, leaders_on, least_number, shortest_routes,
)
from tests.samples import (
    GREAT, REASONS, SAMPLES, SEARCHED, TWELVE_BY_TWELVE, WIDER,
    assert_raises, assert_unreachable, full_floor, positions_of, reordered, turned,
)

FLOORS = [floor for floor, _, _ in SAMPLES] + [TWELVE_BY_TWELVE] + list(GREAT.values()) + SEARCHED
FUNCTIONS = (least_moves, first_route)


def is_clear_floor(floor):
    """Point 7: matched, or all items are leaders."""
    return is_matched_floor(floor) or len(leaders_on(floor)) == len(positions_of(floor))


CLEAR = [floor for floor in FLOORS if is_clear_floor(floor)]
UNCLEAR = [floor for floor in FLOORS if not is_clear_floor(floor)]


class LeastTest(unittest.TestCase):
    def check_pair(self, start, goal, route):
        number, first = least_moves(start, goal), first_route(start, goal)
        self.assertEqual(first, route, (start, goal))
        self.assertEqual(number, len(route), (start, goal))
        self.assertIs(type(number), int)
        self.assertIs(type(first), tuple)
        self.assertEqual([name for name in first if type(name) is not str], [])

    def test_small_floors_against_a_search(self):
        for start in CLEAR:
            if start in SEARCHED:
                for goal, route in shortest_routes(start).items():
                    self.check_pair(start, goal, route)

    def test_wider_floors_against_a_search(self):
        source = random.Random(10)
        for start in WIDER:
            self.assertTrue(is_clear_floor(start))
            reached = shortest_routes(start)
            farthest = [goal for goal, route in reached.items() if len(route) == max(map(len, reached.values()))]
            for goal in source.sample(list(reached), min(len(reached), 40)) + farthest[:20]:
                self.check_pair(start, goal, reached[goal])

    def test_equal_floors(self):
        for floor in CLEAR + WIDER:
            self.check_pair(floor, floor, ())

    def test_one_move(self):
        for floor in CLEAR:
            for name in leaders_on(floor)[:20]:
                goal = cross(floor, name)
                if goal != floor:
                    least = [other for other in leaders_on(floor)[:20] if cross(floor, other) == goal][0]
                    self.check_pair(floor, goal, (least,))

    def test_written_out(self):
        for start, goal, route in (
                ((("A",), ("B",)), (("B",), ("A",)), ("A",)),
                ((("B",), ("A",)), (("A",), ("B",)), ("A",)),
                ((("A", "b"),), (("b", "A"),), ("A",)),
                ((("A", "B", "C"),), (("C", "A", "B"),), ("C",)),
                ((("A", "B", "C"),), (("C", "B", "A"),), ("B",)),
                ((("A", "B", "C"),), (("B", "A", "C"),), ("B", "C")),
                ((("A", "b"), ("c", "D")), (("D", "c"), ("b", "A")), ("A",))):
            self.check_pair(start, goal, route)


class GreatFloorsTest(unittest.TestCase):
    def goals_of(self, floor, many):
        source = random.Random(11)
        leaders = leaders_on(floor)
        for moves in [1, 2, 3, 5, 8] + [60] * many if leaders else [0]:
            yield all_moved(floor, source.choices(leaders, k=moves) if leaders else [])

    def check_goal(self, start, goal):
        number, route = least_moves(start, goal), first_route(start, goal)
        self.assertIs(type(number), int)
        self.assertEqual(number, least_number(start, goal))
        self.assertEqual(len(route), number)
        self.assertEqual(play(start, route), goal)
        return route

    def check_first(self, start, goal, route, steps):
        """No other route with as few moves has a lesser leader at one of these steps."""
        for step in [at for at in steps if at < len(route)]:
            before = play(start, route[:step])
            for name in leaders_on(start):
                if name < route[step]:
                    self.assertGreaterEqual(least_moves(cross(before, name), goal), len(route) - step)

    def test_numbers_and_routes(self):
        for floor in GREAT.values():
            if is_clear_floor(floor):
                for goal in self.goals_of(floor, 8):
                    self.check_goal(floor, goal)

    def test_the_route_is_the_first(self):
        for floor in (GREAT["matched"], GREAT["matched in part"], GREAT["one"]):
            goal = list(self.goals_of(floor, 1))[-1]
            self.check_first(floor, goal, self.check_goal(floor, goal), range(20))
        for floor, steps in ((GREAT["all"], (0, 5)), (full_floor(6, 7), range(20)), (full_floor(1, 12), range(20)),
                             (full_floor(12, 1), range(20)), (full_floor(12, 2), range(0, 20, 3))):
            goal = list(self.goals_of(floor, 1))[-1]
            self.check_first(floor, goal, self.check_goal(floor, goal), steps)

    def test_leaders_only_in_any_order(self):
        source = random.Random(12)
        for count, width in ((12, 12), (12, 1), (1, 12), (3, 12), (11, 12), (8, 8)):
            floor = full_floor(count, width)
            found = 0
            for _ in range(25):
                goal = reordered(floor, source.sample(range(count), count), source.sample(range(width), width))
                if self.find(floor, goal) is not None:
                    found += 1
                    self.check_goal(floor, goal)
            self.assertGreater(found, 5)

    def find(self, start, goal):
        try:
            return first_route(start, goal)
        except ValueError:
            return None


class ErrorsTest(unittest.TestCase):
    def test_not_clear(self):
        self.assertGreater(len(UNCLEAR), 20)
        for floor in UNCLEAR:
            for goal in (floor, all_moved(floor, leaders_on(floor)[:5]), all_moved(floor, leaders_on(floor)[-1:])):
                for function in FUNCTIONS:
                    assert_raises(self, NotClear, {}, function, floor, goal)

    def test_unreachable(self):
        for start, goal, reason in REASONS:
            if reason is not None:
                for function in FUNCTIONS:
                    assert_unreachable(self, start, goal, function, start, goal)
                    assert_unreachable(self, turned(start), turned(goal), function, turned(start), turned(goal))

    def test_unreachable_comes_first(self):
        for floor in UNCLEAR:
            reached = shortest_routes(floor) if floor in SEARCHED else {}
            others = [goal for goal in all_orders(floor) if goal not in reached][:4] if reached else []
            lines = turned(floor)
            for goal in others + [turned(floor[1:] or lines[1:]), floor + (("Zzzz",) * len(floor[0]),)]:
                for function in FUNCTIONS:
                    assert_unreachable(self, floor, goal, function, floor, goal)

    def test_unreachable_on_clear_floors(self):
        for floor in CLEAR:
            if floor in SEARCHED:
                reached = shortest_routes(floor)
                for goal in [goal for goal in all_orders(floor) if goal not in reached][:9]:
                    for function in FUNCTIONS:
                        assert_unreachable(self, floor, goal, function, floor, goal)


class SameAgainTest(unittest.TestCase):
    def test_same_result_and_same_arguments(self):
        pairs = [(floor, all_moved(floor, leaders_on(floor)[:9])) for floor in CLEAR]
        before = repr(pairs)
        first = [(least_moves(*pair), first_route(*pair)) for pair in pairs]
        again = [(least_moves(*pair), first_route(*pair)) for pair in pairs]
        self.assertEqual(first, again)
        self.assertEqual(repr(pairs), before)

    def test_arguments_by_name(self):
        self.assertEqual(least_moves(goal=(("b", "A"),), start=(("A", "b"),)), 1)
        self.assertEqual(first_route(goal=(("b", "A"),), start=(("A", "b"),)), ("A",))

    def test_defined_in_this_file(self):
        for function in FUNCTIONS:
            self.assertEqual(function.__module__, "crossfloor.reach.least")


class ExampleTest(unittest.TestCase):
    def test_least_moves(self):
        self.assertEqual(least_moves((("A",), ("B",)), (("B",), ("A",))), 1)

    def test_first_route(self):
        self.assertEqual(first_route((("A", "B"), ("C", "D")), (("D", "C"), ("B", "A"))), ("A",))


if __name__ == "__main__":
    unittest.main()
