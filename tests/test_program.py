"""Points 1 to 17 over the whole program: its interface, its examples, and its functions together."""

import ast
import importlib
import inspect
import itertools
import pathlib
import random
import unittest

import crossfloor
from crossfloor.errors import CrossError, TooMany, Unreachable
from crossfloor.floors.grid import check_floor, leaders_of, locate
from crossfloor.floors.text import format_floor, parse_floor
from crossfloor.moves.cross import cross, play
from crossfloor.reach.counts import count_reachable, layer_sizes, search_route
from crossfloor.reach.least import first_route, least_moves
from crossfloor.reach.reasons import check_reason, reason_against
from crossfloor.reach.routes import find_route
from crossfloor.rings.alignments import column_alignments, row_alignments
from crossfloor.rings.permutations import gap_distance, gap_word, is_odd
from crossfloor.rings.rings import column_ring, is_clear, is_matched, row_ring, used_columns, used_rows
from crossfloor.scripts.effects import Effect, effect_of
from crossfloor.scripts.language import period, run_script, script_effect, script_length
from crossfloor.table import Table
from tests.plain import all_moved, all_orders, leaders_on, reasons_between, shortest_routes
from tests.samples import GREAT, REASONS, SAMPLES, SEARCHED, TWELVE_BY_TWELVE, WIDER, led_floor, turned

PACKAGE = pathlib.Path(crossfloor.__file__).parent
FLOORS = [floor for floor, _, _ in SAMPLES] + [TWELVE_BY_TWELVE] + list(GREAT.values()) + WIDER + SEARCHED[::6]

# So many floors can be searched again and again.
FEW = 200

# The interface: each file with its constants, its functions and its classes with their methods.
INTERFACE = {
    "errors": {
        "BadFloor": "row, column", "UnknownItem": "name", "NotLeader": "name", "NotRearranged": "",
        "Unreachable": "reason", "NotClear": "", "TooMany": "count", "BadScript": "index", "UnknownKey": "key",
        "TooFew": "count"},
    "floors.grid": {"MOST_LINES": 12, "check_floor": "floor", "locate": "floor, name", "leaders_of": "floor"},
    "floors.text": {"format_floor": "floor", "parse_floor": "text"},
    "moves.cross": {"cross": "floor, name", "play": "floor, names, *, reverse=False"},
    "rings.rings": {
        "GAP": "", "row_ring": "floor", "column_ring": "floor", "used_rows": "floor", "used_columns": "floor",
        "is_matched": "floor", "is_clear": "floor"},
    "rings.permutations": {
        "cycles_of": "permutation", "is_odd": "permutation", "gap_distance": "permutation", "gap_word": "permutation"},
    "rings.alignments": {"row_alignments": "start, goal", "column_alignments": "start, goal"},
    "reach.reasons": {"reason_against": "start, goal", "check_reason": "start, goal, reason"},
    "reach.routes": {"find_route": "start, goal"},
    "reach.least": {"least_moves": "start, goal", "first_route": "start, goal"},
    "reach.counts": {
        "LIMIT": 5000, "count_reachable": "floor", "layer_sizes": "floor, *, limit=5000",
        "search_route": "start, goal, *, limit=5000"},
    "scripts.effects": {
        "Effect": "rows, columns", "Effect.then": "self, other", "Effect.inverse": "self",
        "Effect.power": "self, count", "Effect.apply": "self, floor", "Effect.__eq__": "self, other",
        "Effect.__len__": "self", "Effect.__repr__": "self", "Effect.__str__": "self", "effect_of": "floor, names"},
    "scripts.language": {
        "script_effect": "floor, script", "script_length": "script", "run_script": "floor, script, *, times=1",
        "period": "floor, script"},
    "table": {
        "Table": "", "Table.place": "self, key, floor", "Table.play": "self, key, names",
        "Table.undo": "self, key, *, count=1", "Table.redo": "self, key, *, count=1", "Table.lead": "self, key, goal",
        "Table.floor": "self, key", "Table.history": "self, key", "Table.keys_sorted": "self", "Table.snapshot": "self",
        "Table.__len__": "self"},
}

# The examples of the interface: lines, and what the last one gives or raises.
EXAMPLES = '''
from crossfloor.errors import BadFloor
error = BadFloor(2, 5)
[error.row, error.column]
= [2, 5]
from crossfloor.floors.grid import check_floor
check_floor((("A", "b"), ("c", "A")))
raises BadFloor(row=1, column=1)
from crossfloor.floors.grid import locate
locate((("A", "b"), ("c", "D")), "c")
= (1, 0)
from crossfloor.floors.grid import leaders_of
leaders_of((("D", "b"), ("c", "A")))
= ('A', 'D')
from crossfloor.floors.text import format_floor
format_floor((("A", "b"), ("c", "D")))
= 'A b\\nc D'
from crossfloor.floors.text import parse_floor
parse_floor("A b\\nc")
raises BadFloor(row=1, column=1)
from crossfloor.moves.cross import cross
cross((("a", "b", "c"), ("d", "E", "f"), ("g", "h", "i")), "E")
= (('i', 'h', 'g'), ('f', 'E', 'd'), ('c', 'b', 'a'))
from crossfloor.moves.cross import cross
cross((("A", "b", "c"),), "A")
= (('b', 'c', 'A'),)
from crossfloor.moves.cross import cross
cross((("A", "b"),), "b")
raises NotLeader(name='b')
from crossfloor.moves.cross import play
play((("A", "B", "c"),), ("A", "B"))
= (('c', 'A', 'B'),)
from crossfloor.rings.rings import row_ring
row_ring((("D", "c"), ("b", "A")))
= ('', 'D', 'A')
from crossfloor.rings.rings import column_ring
column_ring((("D", "c"), ("b", "A")))
= ('', 'D', 'A')
from crossfloor.rings.rings import used_rows
used_rows((("b", "c"), ("d", "A")))
= ('A',)
from crossfloor.rings.rings import is_matched
is_matched((("A", "b"), ("c", "D")))
= True
from crossfloor.rings.permutations import cycles_of
cycles_of((("", "b"), ("a", ""), ("b", "a"), ("c", "c")))
= (('', 'b', 'a'),)
from crossfloor.rings.permutations import gap_distance
gap_distance((("", ""), ("a", "b"), ("b", "a")))
= 3
from crossfloor.rings.permutations import gap_word
gap_word((("", ""), ("a", "b"), ("b", "a")))
= ('a', 'b', 'a')
from crossfloor.rings.permutations import gap_word
gap_word((("", "a"), ("a", "b"), ("b", "")))
= ('a', 'b')
from crossfloor.rings.alignments import row_alignments
row_alignments((("a",), ("b",)), (("b",), ("a",)))
= ((('', ''), ('a', 'b'), ('b', 'a')), (('', 'b'), ('a', 'a'), ('b', '')), (('', 'a'), ('a', ''), ('b', 'b')))
from crossfloor.reach.reasons import reason_against
reason_against((("A", "B"), ("C", "D")), (("B", "A"), ("D", "C")))
= ('signs',)
from crossfloor.reach.reasons import reason_against
reason_against((("a", "b"), ("c", "d")), (("a", "c"), ("b", "d")))
= ('row', 'a', 'b')
from crossfloor.reach.reasons import check_reason
check_reason((("a", "b"), ("c", "d")), (("a", "c"), ("b", "d")), ("column", "a", "c"))
= True
from crossfloor.reach.routes import find_route
find_route((("A", "b"), ("c", "d")), (("A", "b"), ("c", "d")))
= ()
from crossfloor.reach.least import least_moves
least_moves((("A",), ("B",)), (("B",), ("A",)))
= 1
from crossfloor.reach.least import first_route
first_route((("A", "B"), ("C", "D")), (("D", "C"), ("B", "A")))
= ('A',)
from crossfloor.reach.counts import count_reachable
count_reachable((("A", "B"), ("C", "D")))
= 2
from crossfloor.reach.counts import layer_sizes
layer_sizes((("A", "b", "c"),))
= (1, 1)
from crossfloor.reach.counts import search_route
search_route((("A", "B", "c"),), (("c", "A", "B"),))
= ('A', 'B')
from crossfloor.scripts.effects import Effect
effect = Effect((("", "a"), ("a", ""), ("b", "b")), (("", ""), ("a", "a")))
[repr(effect), len(effect)]
= ['Effect((_ a) | -)', 1]
from crossfloor.scripts.effects import effect_of
effect = effect_of((("A", "b"),), ("A",))
[effect.rows, effect.columns]
= [(('', 'A'), ('A', '')), (('', 'A'), ('A', ''), ('b', 'b'))]
from crossfloor.scripts.language import script_effect
script_effect((("A", "b"),), "A ( A")
raises BadScript(index=3)
from crossfloor.scripts.language import script_length
script_length("A ( B*2 C )*1000000000000000000")
= 3000000000000000001
from crossfloor.scripts.language import run_script
run_script((("A", "B", "c"),), "A ~( A B )")
= (('B', 'A', 'c'),)
from crossfloor.scripts.language import period
period((("A", "B"),), "A B")
= 1
from crossfloor.table import Table
table = Table()
nothing = table.place("k", (("A", "b"),))
played = table.play("k", ("A",))
undone = table.undo("k")
[table.redo("k"), table.history("k")]
= [(('b', 'A'),), ('A',)]
'''


def examples():
    """The examples as pairs of the list of lines and what is expected."""
    lines = []
    for line in EXAMPLES.strip().split("\n"):
        if line.startswith(("= ", "raises ")):
            yield lines, line.removeprefix("= ")
            lines = []
        else:
            lines.append(line)


def outcome_of(lines):
    """What the last line gives, or which error it raises, as the document writes it."""
    names = {}
    exec("\n".join(lines[:-1]), names)
    try:
        return repr(eval(lines[-1], names))
    except CrossError as error:
        values = ", ".join(f"{name}={value!r}" for name, value in vars(error).items())
        return f"raises {type(error).__name__}({values})"


def signature_of(thing):
    text = str(inspect.signature(thing))
    return text[1:-1]


def outcome(call, *arguments, **more):
    """What the call returns, or the kind of its error and its attributes."""
    try:
        return call(*arguments, **more)
    except CrossError as error:
        return [type(error).__name__, vars(error)]


def mirrored(floor):
    return tuple(names[::-1] for names in floor)


def flipped(floor):
    return floor[::-1]


def goals_of(floor):
    """Some goals, some of which moves lead to."""
    leaders = leaders_on(floor)
    found = [floor, turned(floor), flipped(floor), mirrored(floor), mirrored(flipped(floor))]
    found += [all_moved(floor, names) for names in (leaders[:1], leaders[-3:], leaders[:9], leaders[::2][:20])]
    return found + [floor[1:] + floor[:1]]


class InterfaceTest(unittest.TestCase):
    def test_names_and_parameters(self):
        for file, things in INTERFACE.items():
            module = importlib.import_module("crossfloor." + file)
            for name, expected in things.items():
                if "." in name:
                    first, method = name.split(".")
                    self.assertEqual(signature_of(vars(getattr(module, first))[method]), expected)
                elif callable(getattr(module, name)):
                    self.check_callable(getattr(module, name), "crossfloor." + file, expected)
                else:
                    self.assertEqual(getattr(module, name), expected)
                    self.assertIs(type(getattr(module, name)), type(expected))

    def check_callable(self, thing, module, expected):
        self.assertEqual(thing.__module__, module)
        if isinstance(thing, type) and issubclass(thing, CrossError):
            self.assertEqual(thing.__bases__, (CrossError,))
            if expected:
                self.assertEqual(signature_of(thing), expected)
            else:
                self.assertEqual(vars(thing()), {})
        else:
            self.assertEqual(signature_of(thing), expected)

    def test_each_folder_is_a_package(self):
        folders = {path.parent for path in PACKAGE.rglob("*.py")}
        self.assertEqual(len(folders), 6)
        for folder in folders:
            self.assertTrue((folder / "__init__.py").is_file())

    def test_no_clock_no_random_numbers_no_files(self):
        allowed = {"math": {"factorial", "lcm"}}
        for path in PACKAGE.rglob("*.py"):
            tree = ast.parse(path.read_text())
            for node in ast.walk(tree):
                self.assertNotIsInstance(node, ast.Import)
                if isinstance(node, ast.ImportFrom) and not node.module.startswith("crossfloor."):
                    self.assertLessEqual({name.name for name in node.names}, allowed.get(node.module, set()))
                if isinstance(node, ast.Name):
                    self.assertNotIn(node.id, ("open", "input", "print", "exec", "eval", "hash", "id"))

    def test_examples(self):
        found = 0
        for lines, expected in examples():
            self.assertEqual(outcome_of(lines), expected, lines)
            found += 1
        self.assertEqual(found, 35)


class TogetherTest(unittest.TestCase):
    """What one function returns can be given to another one."""

    def test_routes_and_reasons(self):
        for floor in FLOORS:
            for goal in goals_of(floor):
                reason = reason_against(floor, goal)
                if reason is None:
                    self.check_routes(floor, goal)
                else:
                    self.check_reasons(floor, goal, reason)

    def check_routes(self, floor, goal):
        route = find_route(floor, goal)
        self.assertEqual(play(floor, route), goal)
        self.assertEqual(play(goal, route, reverse=True), floor)
        self.assertEqual(effect_of(floor, route).apply(floor), goal)
        self.assertEqual(run_script(floor, " ".join(route[:400])), play(floor, route[:400]))
        self.assertIs(reason_against(goal, floor), None)
        self.assertEqual(parse_floor(format_floor(goal)), goal)
        self.assertIs(check_floor(goal), None)
        if is_clear(floor):
            first = first_route(floor, goal)
            self.assertEqual(play(floor, first), goal)
            self.assertEqual(len(first), least_moves(floor, goal))
            self.assertEqual(least_moves(goal, floor), len(first))
            self.assertLessEqual(len(first), len(route))
        if count_reachable(floor) <= FEW:
            shortest = search_route(floor, goal)
            self.assertEqual(play(floor, shortest), goal)
            self.assertLess(len(shortest), len(layer_sizes(floor)))
            if is_clear(floor):
                self.assertEqual(shortest, first_route(floor, goal))

    def check_reasons(self, floor, goal, reason):
        self.assertIs(check_reason(floor, goal, reason), True)
        self.assertNotEqual(reason_against(goal, floor), None)
        table = Table()
        table.place("k", floor)
        for call in ((find_route, floor, goal), (least_moves, floor, goal), (first_route, floor, goal),
                     (search_route, floor, goal), (table.lead, "k", goal)):
            with self.assertRaises(Unreachable) as caught:
                call[0](*call[1:])
            self.assertIs(check_reason(floor, goal, caught.exception.reason), True)

    def test_alignments_and_words(self):
        for floor in FLOORS:
            names = leaders_of(floor)[:6]
            goal = play(floor, names)
            effect = effect_of(floor, names)
            rows, columns = row_alignments(floor, goal), column_alignments(floor, goal)
            self.assertIn(effect.rows, rows)
            self.assertIn(effect.columns, columns)
            self.assertIs(is_odd(effect.rows), len(names) % 2 == 1)
            self.assertIs(is_odd(effect.columns), len(names) % 2 == 1)
            for permutation in rows + columns:
                self.assertEqual(len(gap_word(permutation)), gap_distance(permutation))
            for p, q in itertools.product(rows[:3], columns[:3]):
                self.assertEqual(Effect(p, q).apply(floor), goal)

    def test_scripts_and_effects(self):
        for floor in FLOORS:
            if leaders_of(floor):
                names = (leaders_of(floor) * 4)[:9]
                script = "( " + " ".join(names) + " )*1000000000000000000 ~( " + names[0] + " )"
                effect = script_effect(floor, script)
                expected = effect_of(floor, names).power(10 ** 18).then(effect_of(floor, names[:1]))
                self.assertEqual(effect, expected)
                self.assertEqual(script_length(script), len(names) * 10 ** 18 + 1)
                self.assertEqual(run_script(floor, script, times=period(floor, script)), floor)
                self.assertEqual(find_route(floor, effect.apply(floor)), find_route(floor, run_script(floor, script)))
                self.assertIs(reason_against(floor, effect.apply(floor)), None)

    def test_a_table_as_the_functions(self):
        for floor in FLOORS:
            table = Table()
            table.place("k", floor)
            for goal in goals_of(floor)[5:]:
                before = table.floor("k")
                moves = outcome(table.lead, "k", goal)
                if reason_against(before, goal) is None:
                    self.assertEqual(table.floor("k"), goal)
                    self.assertEqual(moves, len(find_route(before, goal)))
            self.assertEqual(play(floor, table.history("k")), table.floor("k"))
            self.assertEqual(effect_of(floor, table.history("k")).apply(floor), table.snapshot()["k"])


class SeenOtherwiseTest(unittest.TestCase):
    """Floors with rows and columns exchanged, and mirrored floors, have the same routes."""

    def check_same(self, floor, seen):
        """The same holds for the floor as it is seen in another way."""
        self.assertEqual(leaders_of(seen(floor)), leaders_of(floor))
        self.assertEqual([is_matched(seen(floor)), is_clear(seen(floor))], [is_matched(floor), is_clear(floor)])
        self.assertEqual(count_reachable(seen(floor)), count_reachable(floor))
        for name in leaders_of(floor)[:20]:
            self.assertEqual(cross(seen(floor), name), seen(cross(floor, name)))
        if count_reachable(floor) <= FEW:
            self.assertEqual(layer_sizes(seen(floor)), layer_sizes(floor))
        for goal in goals_of(floor):
            self.check_goal(floor, goal, seen)

    def check_goal(self, floor, goal, seen):
        for call in (least_moves, first_route):
            here, there = outcome(call, floor, goal), outcome(call, seen(floor), seen(goal))
            if isinstance(here, list) and here[0] == "Unreachable":
                self.assertEqual(there[0], "Unreachable")
            else:
                self.assertEqual(there, here)
        reachable = reason_against(floor, goal) is None
        self.assertIs(reason_against(seen(floor), seen(goal)) is None, reachable)
        if reachable:
            self.assertEqual(seen(play(floor, find_route(seen(floor), seen(goal)))), seen(goal))
            if count_reachable(floor) <= FEW:
                self.assertEqual(search_route(seen(floor), seen(goal)), search_route(floor, goal))

    def test_from_the_diagonal(self):
        for floor in FLOORS:
            self.check_same(floor, turned)
            self.assertEqual(row_ring(turned(floor)), column_ring(floor))
            self.assertEqual(used_rows(turned(floor)), used_columns(floor))
            effect, other = (effect_of(seen, leaders_of(floor)[:7]) for seen in (floor, turned(floor)))
            self.assertEqual([effect.rows, effect.columns], [other.columns, other.rows])
            self.assertEqual(locate(turned(floor), floor[-1][0]), locate(floor, floor[-1][0])[::-1])

    def test_reasons_from_the_diagonal(self):
        kinds = {"row": "column", "column": "row", "idle rows": "idle columns", "idle columns": "idle rows"}
        for start, goal, _ in REASONS:
            for reason in reasons_between(start, goal):
                other = (kinds.get(reason[0], reason[0]), *reason[1:])
                self.assertIs(check_reason(start, goal, reason), True)
                self.assertIs(check_reason(turned(start), turned(goal), other), True)

    def test_mirrored(self):
        for floor in FLOORS[::2]:
            self.check_same(floor, mirrored)
        for floor in FLOORS[1::2]:
            self.check_same(floor, flipped)

    def test_effects_on_mirrored_floors(self):
        for floor in FLOORS:
            names = leaders_of(floor)[:7]
            for seen in (mirrored, flipped):
                self.assertEqual(effect_of(seen(floor), names), effect_of(floor, names))
                self.assertEqual(period(seen(floor), " ".join(names)), period(floor, " ".join(names)))


class MoreLeadersTest(unittest.TestCase):
    """Where more items are leaders, moves lead at least as far, in at most as many moves."""

    def floors_with_more_leaders(self):
        source = random.Random(27)
        for count, width in ((2, 2), (2, 3), (3, 3), (1, 5), (3, 4), (4, 1)):
            places = list(itertools.product(range(count), range(width)))
            mixed = source.sample(places, len(places))
            yield [led_floor(count, width, mixed[:many]) for many in range(len(places) + 1)]

    def test_more_floors_and_fewer_moves(self):
        for floors in self.floors_with_more_leaders():
            for fewer, more in zip(floors, floors[1:]):
                self.assertLessEqual(count_reachable(fewer), count_reachable(more))
                self.check_goals(fewer, more)

    def check_goals(self, fewer, more):
        names = {text.lower(): text for row in more for text in row}
        for goal in list(shortest_routes(fewer))[:25]:
            same = tuple(tuple(names[text.lower()] for text in row) for row in goal)
            self.assertIs(reason_against(more, same), None)
            self.assertLessEqual(len(search_route(more, same)), len(search_route(fewer, goal)))
            self.assertEqual(play(more, find_route(more, same)), same)

    def test_every_order_of_the_last_floor(self):
        for floors in self.floors_with_more_leaders():
            full = floors[-1]
            reached = shortest_routes(full)
            for goal in all_orders(full)[::3]:
                self.assertEqual(outcome(first_route, full, goal) if goal in reached else None, reached.get(goal))


class SameAgainTest(unittest.TestCase):
    def results(self, floor, goal):
        script = " ".join(leaders_of(floor)[:5] + ("(", ")*7"))
        calls = [(reason_against, floor, goal), (find_route, floor, goal), (least_moves, floor, goal),
                 (first_route, floor, goal), (count_reachable, floor), (row_alignments, floor, goal),
                 (script_effect, floor, script), (run_script, floor, script), (period, floor, script),
                 (cross, floor, floor[0][0]), (effect_of, floor, leaders_of(floor)), (parse_floor, format_floor(floor)),
                 (layer_sizes, floor) if count_reachable(floor) < 500 else (count_reachable, goal)]
        return [repr(outcome(*call)) for call in calls]

    def test_with_other_calls_in_between(self):
        pairs = [(floor, goal) for floor in FLOORS[::2] for goal in goals_of(floor)[3:8]]
        before = repr(pairs)
        first = [self.results(*pair) for pair in pairs]
        again = [self.results(*pair) for pair in reversed(pairs)]
        self.assertEqual(first, again[::-1])
        self.assertEqual(repr(pairs), before)

    def test_errors_again(self):
        floor = (("A", "B", "c"), ("d", "E", "F"))
        for _ in range(2):
            many = {"count": count_reachable(floor)}
            self.assertEqual(outcome(search_route, floor, floor, limit=1), ["TooMany", many])
            self.assertEqual(outcome(run_script, floor, "A ("), ["BadScript", {"index": 2}])
            self.assertEqual(outcome(least_moves, floor, floor), ["NotClear", {}])
        self.assertTrue(issubclass(TooMany, CrossError))


if __name__ == "__main__":
    unittest.main()
