"""Points 2, 5, 6, 7, 9, 10 and 13 and the interface of crossfloor/reach/counts.py."""

import itertools
import math
import random
import unittest
from functools import partial

from crossfloor.errors import TooMany
from crossfloor.moves.cross import cross, play
from crossfloor.reach import counts
from crossfloor.reach.counts import count_reachable, layer_sizes, search_route
from tests.plain import all_moved, all_orders, idle_row_labels, is_matched_floor, leaders_on, pairs_between
from tests.plain import shortest_routes
from tests.samples import (
    GREAT, REASONS, SAMPLES, SEARCHED, TWELVE_BY_TWELVE, WIDER,
    assert_raises, assert_unreachable, full_floor, led_floor, turned,
)

FLOORS = [floor for floor, _, _ in SAMPLES] + [TWELVE_BY_TWELVE] + list(GREAT.values()) + SEARCHED + WIDER
# Floors of twelve rows and columns, mostly not clear, from which a few thousand floors can be reached.
CORNER = led_floor(12, 12, list(itertools.product(range(4), range(3, 7))))
BENT = led_floor(12, 12, [(2, 3), (2, 8), (5, 8), (9, 8), (9, 1)])
SIX_MATCHED = led_floor(12, 12, [(row, 11 - 2 * row) for row in range(6)])

# Numbers of floors, worked out by hand from points 9 and 10.
FACTORIAL = [math.factorial(number) for number in range(14)]
NUMBERS = [
    ((("a",),), 1), ((("A",),), 1), ((("A", "b"),), 2), ((("A", "B"),), 2), ((("A", "b", "c"),), 2),
    ((("A",), ("B",), ("C",)), 6), ((("A", "b"), ("c", "D")), 6 // 3), ((("A", "b", "c"), ("d", "E", "f")), 6),
    ((("a", "B"), ("C", "d")), 2), ((("A", "B"), ("C", "d")), 18 // 9), ((("A", "B", "c"), ("D", "e", "f")), 18 // 3),
    (GREAT["none"], 1), (GREAT["one"], 2), (GREAT["matched"], FACTORIAL[13]),
    (led_floor(12, 12, [(at, at) for at in range(12)]), FACTORIAL[12]),
    (led_floor(12, 12, [(at, 11 - at) for at in range(12)]), FACTORIAL[12]),
    (GREAT["matched in part"], FACTORIAL[8]), (GREAT["one row"], FACTORIAL[12]), (GREAT["one column"], FACTORIAL[12]),
    (GREAT["part of a row"], FACTORIAL[5]), (GREAT["part of a column"], FACTORIAL[4]), (GREAT["a few"], 24 * 24 // 2),
    (GREAT["a corner"], 24 * 120 // 2), (GREAT["one more than matched"], (FACTORIAL[13] // 13) ** 2 // 2),
    (GREAT["all but one"], FACTORIAL[12] ** 2 // 2), (GREAT["all"], FACTORIAL[12] ** 2 // 2),
    (full_floor(12, 11), FACTORIAL[13] * FACTORIAL[12] // 2 // (13 * 6)), (full_floor(1, 7), 5040),
    (full_floor(2, 7), 10080), (full_floor(1, 12), FACTORIAL[12]), (full_floor(5, 5), 14400),
    (full_floor(11, 11), FACTORIAL[12] ** 2 // 2 // 72), (full_floor(1, 1), 1), (full_floor(2, 1), 2),
    (CORNER, 7200), (BENT, 288), (SIX_MATCHED, 5040),
]


def number_of_floors(floor):
    """Points 9 and 10: the effects of moves, divided by those that lead to the floor itself."""
    used = len(floor) - len(idle_row_labels(floor))
    effects = math.factorial(used + 1)
    if not is_matched_floor(floor):
        others = len(floor[0]) - len(idle_row_labels(turned(floor)))
        effects = effects * math.factorial(others + 1) // 2
    return effects // len(pairs_between(floor, floor))


def sizes_of(routes):
    """How many of the routes have each length, from 0 on."""
    lengths = [len(route) for route in routes.values()]
    return tuple(lengths.count(length) for length in range(max(lengths) + 1))


class CountTest(unittest.TestCase):
    def check_number(self, floor, expected):
        number = count_reachable(floor)
        self.assertEqual(number, expected, floor)
        self.assertIs(type(number), int)

    def test_limit(self):
        self.assertEqual(counts.LIMIT, 5000)
        self.assertIs(type(counts.LIMIT), int)

    def test_against_a_search(self):
        for floor in SEARCHED + WIDER:
            self.check_number(floor, len(shortest_routes(floor)))

    def test_worked_out_by_hand(self):
        for floor, expected in NUMBERS:
            self.check_number(floor, expected)
            self.check_number(turned(floor), expected)

    def test_against_points_9_and_10(self):
        source = random.Random(15)
        for floor in FLOORS:
            self.check_number(floor, number_of_floors(floor))
        for many in (1, 2, 3, 4, 6, 9, 20, 70, 140):
            floor = led_floor(12, 12, source.sample(list(itertools.product(range(12), repeat=2)), many))
            self.check_number(floor, number_of_floors(floor))

    def test_the_same_on_every_floor_that_is_reached(self):
        for floor in FLOORS:
            names = leaders_on(floor)[-7:]
            self.assertEqual(count_reachable(all_moved(floor, names)), count_reachable(floor))

    def test_floors_without_leaders(self):
        for count, width in itertools.product((1, 2, 5, 12), repeat=2):
            self.check_number(led_floor(count, width, []), 1)


class LayersTest(unittest.TestCase):
    def check_sizes(self, floor, expected, **limit):
        sizes = layer_sizes(floor, **limit)
        self.assertEqual(sizes, expected, floor)
        self.assertEqual({type(size) for size in sizes}, {int})
        self.assertIs(type(sizes), tuple)

    def test_against_a_search(self):
        for floor in SEARCHED + WIDER:
            expected = sizes_of(shortest_routes(floor))
            self.check_sizes(floor, expected)
            self.check_sizes(floor, expected, limit=10000)
            self.check_sizes(floor, expected, limit=sum(expected))

    def test_sum(self):
        for floor in (CORNER, BENT, SIX_MATCHED, GREAT["one"], GREAT["part of a row"], GREAT["a corner"],
                      GREAT["a few"], full_floor(1, 7), full_floor(4, 5), led_floor(12, 5, [(3, 1), (4, 4), (4, 0)])):
            sizes = layer_sizes(floor, limit=10000)
            self.assertEqual(sum(sizes), count_reachable(floor))
            self.assertEqual(sizes[0], 1)
            self.assertNotIn(0, sizes)
            nearest = {cross(floor, name) for name in leaders_on(floor)} - {floor}
            self.assertEqual(sizes[1], len(nearest))
            self.assertEqual(layer_sizes(turned(floor), limit=10000), sizes)

    def test_written_out(self):
        self.check_sizes((("a",),), (1,))
        self.check_sizes((("A",),), (1,))
        self.check_sizes((("A", "B", "C"),), (1, 3, 2))
        self.check_sizes((("A", "B"), ("C", "D")), (1, 1))
        self.check_sizes((("A", "b", "c"), ("d", "E", "f")), (1, 2, 2, 1))

    def test_great_floors_without_leaders(self):
        self.check_sizes(GREAT["none"], (1,), limit=1)
        self.check_sizes(GREAT["one"], (1, 1), limit=2)


class LimitTest(unittest.TestCase):
    def calls_of(self, floor, **limit):
        goal = all_moved(floor, leaders_on(floor)[:3])
        yield partial(layer_sizes, floor, **limit)
        yield partial(search_route, floor, goal, **limit)
        yield partial(search_route, floor, floor, **limit)
        yield partial(search_route, goal, floor, **limit)

    def check_too_many(self, floor, count, **limit):
        for call in self.calls_of(floor, **limit):
            assert_raises(self, TooMany, {"count": count}, call)

    def check_not_too_many(self, floor, **limit):
        for call in self.calls_of(floor, **limit):
            self.assertIs(type(call()), tuple)

    def test_limit_around_the_number(self):
        for floor in SEARCHED[::5] + WIDER[::2]:
            count = len(shortest_routes(floor))
            self.check_not_too_many(floor, limit=count)
            self.check_not_too_many(floor, limit=count + 1)
            self.check_not_too_many(floor, limit=10000)
            if count > 1:
                self.check_too_many(floor, count, limit=count - 1)
                self.check_too_many(floor, count, limit=1)

    def test_limit_omitted(self):
        # 5040 floors are more than 5000.
        for floor in (full_floor(1, 7), full_floor(7, 1), SIX_MATCHED):
            self.check_too_many(floor, 5040)
            self.check_too_many(floor, 5040, limit=5000)
            self.check_too_many(floor, 5040, limit=5039)
            self.check_not_too_many(floor, limit=5040)
            self.check_not_too_many(floor, limit=10000)
        self.check_not_too_many(full_floor(4, 5))
        self.check_too_many(full_floor(2, 7), 10080)
        self.check_too_many(full_floor(2, 7), 10080, limit=10000)
        self.check_too_many(full_floor(7, 2), 10080, limit=1)

    def test_no_leaders(self):
        for floor in (GREAT["none"], (("a",),), (("a", "b"), ("c", "d"))):
            self.check_not_too_many(floor, limit=1)
            self.check_not_too_many(floor)

    def test_great_numbers(self):
        for name in ("matched", "one row", "one column", "one more than matched", "all but one", "all"):
            self.check_too_many(GREAT[name], number_of_floors(GREAT[name]))
            self.check_too_many(GREAT[name], number_of_floors(GREAT[name]), limit=10000)


class SearchRouteTest(unittest.TestCase):
    def check_route(self, start, goal, expected, **limit):
        route = search_route(start, goal, **limit)
        self.assertEqual(route, expected, (start, goal))
        self.assertIs(type(route), tuple)
        self.assertEqual([name for name in route if type(name) is not str], [])

    def test_against_a_search(self):
        for start in SEARCHED:
            for goal, route in shortest_routes(start).items():
                self.check_route(start, goal, route)

    def test_wider_floors_against_a_search(self):
        source = random.Random(16)
        for start in WIDER + [GREAT["a few"], BENT]:
            reached = shortest_routes(start)
            for goal in source.sample(list(reached), 12):
                self.check_route(start, goal, reached[goal])
                self.check_route(start, goal, reached[goal], limit=len(reached))

    def test_backwards_from_other_floors(self):
        for start in SEARCHED[::9]:
            for goal in list(shortest_routes(start))[:9]:
                self.check_route(goal, start, shortest_routes(goal)[start])

    def test_larger_floors(self):
        source = random.Random(17)
        for start in (CORNER, SIX_MATCHED, GREAT["a corner"]):
            for _ in range(3):
                goal = all_moved(start, source.choices(leaders_on(start), k=40))
                route = search_route(start, goal, limit=10000)
                self.assertEqual(play(start, route), goal)
                self.check_first(start, goal, route)

    def check_first(self, start, goal, route):
        """No lesser leader than the first one begins a route with as few moves."""
        for name in leaders_on(start):
            if route and name < route[0]:
                self.assertGreaterEqual(len(search_route(cross(start, name), goal, limit=10000)), len(route))

    def test_equal_floors(self):
        for floor in SEARCHED + WIDER + [CORNER, BENT, GREAT["none"], GREAT["one"]]:
            self.check_route(floor, floor, (), limit=10000)

    def test_unreachable(self):
        for start, goal, reason in REASONS:
            if reason is not None:
                for limit in ({}, {"limit": 1}, {"limit": 10000}):
                    assert_unreachable(self, start, goal, partial(search_route, start, goal, **limit))

    def test_unreachable_on_small_floors(self):
        for start in SEARCHED:
            reached = shortest_routes(start)
            for goal in [goal for goal in all_orders(start) if goal not in reached][:5]:
                # Unreachable comes before TooMany.
                assert_unreachable(self, start, goal, partial(search_route, start, goal, limit=1))

    def test_unreachable_on_great_floors(self):
        for floor in GREAT.values():
            assert_unreachable(self, floor, turned(floor), search_route, floor, turned(floor))
            assert_unreachable(self, floor, floor[1:], search_route, floor, floor[1:])


class SameAgainTest(unittest.TestCase):
    def test_same_result_and_same_arguments(self):
        floors = SEARCHED + [BENT, GREAT["one"]]
        before = repr(floors)
        results = [[(count_reachable(floor), layer_sizes(floor), search_route(floor, floor)) for floor in floors]
                   for _ in range(2)]
        self.assertEqual(results[0], results[1])
        self.assertEqual(repr(floors), before)

    def test_arguments_by_name(self):
        floor = (("A", "b"),)
        self.assertEqual(count_reachable(floor=floor), 2)
        self.assertEqual(layer_sizes(limit=2, floor=floor), (1, 1))
        self.assertEqual(search_route(limit=2, goal=(("b", "A"),), start=floor), ("A",))

    def test_limit_by_keyword_only(self):
        with self.assertRaises(TypeError):
            layer_sizes((("A", "b"),), 10)
        with self.assertRaises(TypeError):
            search_route((("A", "b"),), (("A", "b"),), 10)

    def test_defined_in_this_file(self):
        for function in (count_reachable, layer_sizes, search_route):
            self.assertEqual(function.__module__, "crossfloor.reach.counts")


class ExampleTest(unittest.TestCase):
    def test_count_reachable(self):
        self.assertEqual(count_reachable((("A", "B"), ("C", "D"))), 2)

    def test_layer_sizes(self):
        self.assertEqual(layer_sizes((("A", "b", "c"),)), (1, 1))

    def test_search_route(self):
        self.assertEqual(search_route((("A", "B", "c"),), (("c", "A", "B"),)), ("A", "B"))


if __name__ == "__main__":
    unittest.main()
