"""Points 2, 5, 13 and 17 and the interface of crossfloor/table.py."""

import random
import unittest
from functools import partial
from unittest import mock

from crossfloor import table as table_file
from crossfloor.errors import CrossError, NotLeader, TooFew, UnknownItem, UnknownKey
from crossfloor.moves.cross import play
from crossfloor.table import Table
from tests.plain import all_moved, leaders_on
from tests.samples import (
    GREAT, REASONS, SAMPLES, SEARCHED, TWELVE_BY_TWELVE,
    assert_raises, assert_unreachable, turned,
)

FLOOR = (("A", "B", "c"), ("d", "E", "F"))
PAIR = (("A", "b"),)
METHODS = ("place", "play", "undo", "redo", "lead", "floor", "history", "keys_sorted", "snapshot")


def filled(*moves):
    """A table with FLOOR under "k", on which these moves were played one by one."""
    table = Table()
    table.place("k", FLOOR)
    for name in moves:
        table.play("k", (name,))
    return table


def state_of(table):
    """All that the table tells, also how many moves can be redone under each key."""
    return [table.keys_sorted(), table.snapshot(), len(table), table.busy,
            [(table.floor(key), table.history(key), redoable(table, key)) for key in table.keys_sorted()]]


def redoable(table, key):
    """How many moves can be redone."""
    try:
        table.redo(key, count=10 ** 9)
    except TooFew as error:
        return error.count


class TableTest(unittest.TestCase):
    def check(self, table, floor, history, undone=0, key="k"):
        self.assertEqual(table.floor(key), floor)
        self.assertEqual(table.history(key), tuple(history))
        self.assertIs(type(table.history(key)), tuple)
        self.assertEqual(redoable(table, key), undone)
        self.assertIs(table.busy, None)

    def test_empty(self):
        table = Table()
        self.assertEqual(state_of(table), [[], {}, 0, None, []])
        self.assertIn("busy", vars(table))
        self.assertIs(type(len(table)), int)

    def test_place(self):
        table = Table()
        self.assertIs(table.place("k", FLOOR), None)
        self.check(table, FLOOR, ())
        self.assertIs(table.place(key="A", floor=PAIR), None)
        self.check(table, PAIR, (), key="A")
        self.assertEqual(len(table), 2)

    def test_place_again(self):
        table = filled("A", "B", "E")
        table.undo("k")
        table.place("k", PAIR)
        self.check(table, PAIR, ())
        self.assertEqual(len(table), 1)
        table.place("k", PAIR)
        self.check(table, PAIR, ())

    def test_place_the_same_floor_again(self):
        table = filled("A", "B")
        table.undo("k")
        table.place("k", table.floor("k"))
        self.check(table, all_moved(FLOOR, "A"), ())

    def test_play(self):
        table = filled()
        for names in (("A",), ("B", "E"), (), ("F", "F", "A", "E")):
            before, history = table.floor("k"), table.history("k")
            self.assertEqual(table.play("k", names), all_moved(before, names))
            self.check(table, all_moved(before, names), history + names)
        self.assertEqual(table.history("k"), ("A", "B", "E", "F", "F", "A", "E"))

    def test_play_most_names(self):
        names = ("A", "B", "E", "F", "E") * 100
        table = filled()
        self.assertEqual(table.play("k", names), all_moved(FLOOR, names))
        self.check(table, all_moved(FLOOR, names), names)

    def test_undo(self):
        names = ("A", "B", "E", "F", "A")
        for count in range(6):
            table = filled(*names)
            left = names[:len(names) - count]
            self.assertEqual(table.undo("k", count=count), all_moved(FLOOR, left))
            self.check(table, all_moved(FLOOR, left), left, count)

    def test_undo_one_by_one(self):
        names = ("A", "B", "E", "F", "A")
        table = filled(*names)
        for left in range(4, -1, -1):
            self.assertEqual(table.undo("k"), all_moved(FLOOR, names[:left]))
            self.check(table, all_moved(FLOOR, names[:left]), names[:left], 5 - left)

    def test_redo(self):
        names = ("A", "B", "E", "F", "A")
        for undone in range(6):
            for count in range(undone + 1):
                table = filled(*names)
                table.undo("k", count=undone)
                left = names[:len(names) - undone + count]
                self.assertEqual(table.redo("k", count=count), all_moved(FLOOR, left))
                self.check(table, all_moved(FLOOR, left), left, undone - count)

    def test_redo_one_by_one(self):
        names = ("A", "B", "E")
        table = filled(*names)
        table.undo("k", count=2)
        table.undo("k")
        for left in (1, 2, 3):
            self.assertEqual(table.redo("k"), all_moved(FLOOR, names[:left]))
            self.check(table, all_moved(FLOOR, names[:left]), names[:left], 3 - left)
        self.assertEqual(table.undo("k", count=3), FLOOR)
        self.check(table, FLOOR, (), 3)

    def test_undo_in_pieces_of_other_sizes(self):
        names = ("A", "B", "E", "F", "A", "E", "B")
        table = filled(*names)
        table.undo("k", count=3)
        table.redo("k", count=1)
        table.undo("k", count=4)
        self.check(table, all_moved(FLOOR, "A"), ("A",), 6)
        self.assertEqual(table.redo("k", count=6), all_moved(FLOOR, names))
        self.check(table, all_moved(FLOOR, names), names)

    def test_nothing_to_redo_after_play(self):
        table = filled("A", "B", "E")
        table.undo("k", count=2)
        table.play("k", ("F",))
        self.check(table, all_moved(FLOOR, "AF"), "AF", 0)
        table.undo("k")
        self.check(table, all_moved(FLOOR, "A"), "A", 1)

    def test_still_to_redo_after_no_move(self):
        table = filled("A", "B", "E")
        table.undo("k", count=2)
        self.assertEqual(table.play("k", ()), all_moved(FLOOR, "A"))
        self.check(table, all_moved(FLOOR, "A"), "A", 2)
        self.assertEqual(table.lead("k", all_moved(FLOOR, "A")), 0)
        self.check(table, all_moved(FLOOR, "A"), "A", 2)
        table.undo("k", count=0)
        table.redo("k", count=0)
        self.check(table, all_moved(FLOOR, "A"), "A", 2)
        table.redo("k", count=2)
        self.check(table, all_moved(FLOOR, "ABE"), "ABE", 0)

    def test_nothing_to_redo_after_lead(self):
        table = filled("A", "B", "E")
        table.undo("k", count=2)
        goal = all_moved(FLOOR, "AF")
        self.assertNotEqual(goal, table.floor("k"))
        number = table.lead("k", goal)
        self.assertGreater(number, 0)
        self.check(table, goal, table.history("k"), 0)
        self.assertEqual(len(table.history("k")), 1 + number)

    def test_nothing_to_redo_after_place(self):
        table = filled("A", "B", "E")
        table.undo("k", count=2)
        table.place("k", FLOOR)
        self.check(table, FLOOR, (), 0)

    def test_moves_that_change_nothing_are_moves(self):
        table = Table()
        table.place("k", (("A",),))
        table.play("k", ("A",))
        table.undo("k")
        self.check(table, (("A",),), (), 1)
        table.play("k", ("A", "A"))
        self.check(table, (("A",),), ("A", "A"), 0)

    def test_lead(self):
        source = random.Random(25)
        for floor in [floor for floor, _, _ in SAMPLES] + SEARCHED[::5] + [TWELVE_BY_TWELVE, *GREAT.values()]:
            table = Table()
            table.place("k", floor)
            leaders = leaders_on(floor)
            goal = all_moved(floor, source.choices(leaders, k=30) if leaders else ())
            number = table.lead("k", goal)
            self.assertIs(type(number), int)
            self.assertLessEqual(number, 500)
            history = table.history("k")
            self.check(table, goal, history)
            self.assertEqual(len(history), number)
            self.assertEqual(play(floor, history), goal)
            self.assertEqual(table.undo("k", count=number), floor)
            self.check(table, floor, (), number)
            self.assertEqual(table.redo("k", count=number), goal)
            self.check(table, goal, history)

    def test_lead_behind_other_moves(self):
        table = filled("A", "E")
        number = table.lead("k", FLOOR)
        self.assertEqual(table.history("k")[:2], ("A", "E"))
        self.assertEqual(len(table.history("k")), 2 + number)
        self.assertEqual(play(FLOOR, table.history("k")), FLOOR)

    def test_keys_and_snapshot(self):
        table = Table()
        for key in ("b", "Ab", "B", "a", "A", "ab", "zzzzzz", "Zzzzzz"):
            table.place(key, PAIR)
        table.place("ab", FLOOR)
        table.play("ab", ("A",))
        keys = ["A", "Ab", "B", "Zzzzzz", "a", "ab", "b", "zzzzzz"]
        self.assertEqual(table.keys_sorted(), keys)
        self.assertIs(type(table.keys_sorted()), list)
        self.assertEqual(table.snapshot(), {key: all_moved(FLOOR, "A") if key == "ab" else PAIR for key in keys})
        self.assertIs(type(table.snapshot()), dict)
        self.assertEqual(len(table), 8)

    def test_arguments_by_name(self):
        table = Table()
        table.place(floor=FLOOR, key="k")
        self.assertEqual(table.play(names=("A", "B"), key="k"), all_moved(FLOOR, "AB"))
        self.assertEqual(table.undo(count=1, key="k"), all_moved(FLOOR, "A"))
        self.assertEqual(table.redo(key="k", count=1), all_moved(FLOOR, "AB"))
        self.assertEqual(table.lead(goal=all_moved(FLOOR, "AB"), key="k"), 0)
        self.assertEqual([table.floor(key="k"), table.history(key="k")], [all_moved(FLOOR, "AB"), ("A", "B")])
        for method in (table.undo, table.redo):
            with self.assertRaises(TypeError):
                method("k", 1)

    def test_methods_of_the_class_itself(self):
        self.assertEqual(Table.__module__, "crossfloor.table")
        for name in METHODS + ("__init__", "__len__"):
            self.assertIn(name, vars(Table))


class ErrorsTest(unittest.TestCase):
    def check_error(self, table, kind, values, call):
        before = state_of(table)
        assert_raises(self, kind, values, call)
        self.assertIs(table.busy, None)
        self.assertEqual(state_of(table), before)

    def tables(self):
        """An empty table, and others with something under "k" and "other"."""
        undone = filled("A", "B", "E")
        undone.undo("k", count=2)
        undone.place("other", PAIR)
        return [Table(), filled(), filled("A", "F"), undone]

    def test_unknown_key(self):
        for table in self.tables():
            for key in ("q", "K", "kk", "", "k ", " ", "Other", "a b", "~", "1", "\n", "Abcdefgh"):
                for call in (partial(table.play, key, ("A",)), partial(table.play, key, ()), partial(table.undo, key),
                             partial(table.undo, key, count=0), partial(table.redo, key),
                             partial(table.redo, key, count=0), partial(table.lead, key, FLOOR),
                             partial(table.floor, key), partial(table.history, key)):
                    self.check_error(table, UnknownKey, {"key": key}, call)

    def test_unknown_key_comes_first(self):
        for table in self.tables():
            for call in (partial(table.play, "q", ("x", "c")), partial(table.undo, "q", count=99),
                         partial(table.redo, "q", count=99), partial(table.lead, "q", PAIR)):
                self.check_error(table, UnknownKey, {"key": "q"}, call)

    def test_wrong_names(self):
        for table in self.tables()[1:]:
            for names, kind, name in ((("x",), UnknownItem, "x"), (("c",), NotLeader, "c"),
                                      (("A", "d"), NotLeader, "d"), (("A", "X", "c"), UnknownItem, "X"),
                                      (("c", "X"), NotLeader, "c"), (("A", "B", "F", ""), UnknownItem, ""),
                                      (("A",) * 499 + ("c",), NotLeader, "c")):
                self.check_error(table, kind, {"name": name}, partial(table.play, "k", names))

    def test_too_few_to_undo(self):
        for many in range(4):
            table = filled(*"ABE"[:many])
            for count in (many + 1, many + 2, 10 ** 18):
                self.check_error(table, TooFew, {"count": many}, partial(table.undo, "k", count=count))
        table = filled()
        self.check_error(table, TooFew, {"count": 0}, partial(table.undo, "k"))

    def test_too_few_to_redo(self):
        for many in range(4):
            table = filled(*"ABEF")
            table.undo("k", count=many)
            for count in (many + 1, many + 2, 10 ** 18):
                self.check_error(table, TooFew, {"count": many}, partial(table.redo, "k", count=count))
        table = filled("A")
        self.check_error(table, TooFew, {"count": 0}, partial(table.redo, "k"))

    def test_no_way_to_the_goal(self):
        for start, goal, reason in REASONS:
            if reason is not None:
                table = filled()
                table.place("r", start)
                before = state_of(table)
                assert_unreachable(self, start, goal, table.lead, "r", goal)
                self.assertEqual(state_of(table), before)

    def test_no_way_from_the_current_floor(self):
        table = filled("A", "B", "E")
        table.undo("k")
        before = state_of(table)
        assert_unreachable(self, all_moved(FLOOR, "AB"), turned(FLOOR), table.lead, "k", turned(FLOOR))
        self.assertEqual(state_of(table), before)

    def test_usable_after_an_error(self):
        table = filled("A")
        self.check_error(table, NotLeader, {"name": "c"}, partial(table.play, "k", ("B", "c")))
        self.assertEqual(table.play("k", ("B",)), all_moved(FLOOR, "AB"))
        self.assertEqual(table.undo("k", count=2), FLOOR)


class BusyTest(unittest.TestCase):
    def test_the_key_while_moves_are_played(self):
        table = filled("A", "B")
        seen = []

        def watched(*arguments, **more):
            seen.append(table.busy)
            return play(*arguments, **more)
        with mock.patch.object(table_file, "play", watched):
            table.play("k", ("A", "E"))
            self.assertEqual(set(seen), {"k"})
            table.undo("k", count=2)
            table.redo("k")
            table.lead("k", FLOOR)
            assert_raises(self, UnknownItem, {"name": "x"}, table.play, "k", ("x",))
        self.assertEqual(set(seen), {"k"})
        self.assertIs(table.busy, None)

    def test_none_behind_every_call(self):
        table = filled()
        calls = [partial(table.play, "k", ("A", "E")), partial(table.play, "k", ()), partial(table.undo, "k"),
                 partial(table.redo, "k"), partial(table.lead, "k", FLOOR), partial(table.floor, "k"),
                 partial(table.history, "k"), table.keys_sorted, table.snapshot, partial(table.place, "k", PAIR),
                 partial(table.play, "k", ("b",)), partial(table.undo, "k", count=9), partial(table.lead, "k", FLOOR)]
        for call in calls:
            try:
                call()
            except CrossError:
                pass
            self.assertIs(table.busy, None)


class OwnValuesTest(unittest.TestCase):
    def test_lists_and_dictionaries_belong_to_the_caller(self):
        table = filled("A", "B")
        table.place("a", PAIR)
        before = state_of(table)
        keys, floors = table.keys_sorted(), table.snapshot()
        keys.append("x")
        keys.reverse()
        floors["k"] = PAIR
        floors["x"] = FLOOR
        del floors["a"]
        self.assertEqual(state_of(table), before)
        table.snapshot().clear()
        table.keys_sorted().clear()
        self.assertEqual(state_of(table), before)

    def test_later_calls_do_not_change_them(self):
        table = filled("A", "B")
        keys, floors, history, floor = table.keys_sorted(), table.snapshot(), table.history("k"), table.floor("k")
        told = repr([keys, floors, history, floor])
        table.play("k", ("E",))
        table.place("a", PAIR)
        table.undo("k", count=2)
        table.place("k", PAIR)
        self.assertEqual(repr([keys, floors, history, floor]), told)

    def test_two_keys(self):
        table = filled("A", "B", "E")
        table.place("a", FLOOR)
        table.play("a", ("F",))
        table.undo("k", count=2)
        table.undo("a")
        self.assertEqual([table.history("k"), table.history("a")], [("A",), ()])
        self.assertEqual([redoable(table, "k"), redoable(table, "a")], [2, 1])
        table.play("a", ("A", "A"))
        self.assertEqual([redoable(table, "k"), redoable(table, "a")], [2, 0])
        table.place("a", PAIR)
        self.assertEqual(table.redo("k", count=2), all_moved(FLOOR, "ABE"))
        self.assertEqual([table.floor("a"), table.history("a")], [PAIR, ()])

    def test_two_tables(self):
        one, two = filled("A"), filled("B", "E")
        before = state_of(two)
        one.place("a", PAIR)
        one.play("k", ("F",))
        one.undo("k", count=2)
        one.place("k", PAIR)
        self.assertEqual(state_of(two), before)
        self.assertEqual([len(one), len(two), len(Table())], [2, 1, 0])


class AnyCallsTest(unittest.TestCase):
    """Point 17 again, with a list of moves for each key of which only a part is played."""

    def test_any_calls(self):
        source = random.Random(26)
        for _ in range(60):
            table, model = Table(), {}
            for _ in range(60):
                self.any_call(source, table, model)
                self.compare(table, model)

    def any_call(self, source, table, model):
        key = source.choice(["k", "A", "Zz"])
        if key not in model or source.random() < 0.05:
            floor = source.choice([FLOOR, PAIR, turned(FLOOR), GREAT["a few"]])
            table.place(key, floor)
            model[key] = [floor, [], 0]
            return
        floor, moves, played = model[key]
        names = source.choices(leaders_on(floor), k=source.choice([0, 1, 1, 2, 5]))
        word = source.choice(["play", "undo", "redo", "lead"])
        if word == "play":
            table.play(key, tuple(names))
        elif word == "lead":
            number = table.lead(key, all_moved(floor, moves[:played] + names))
            names = list(table.history(key)[played:])
            self.assertEqual(number, len(names))
        else:
            self.step(source, table, model[key], key, word)
            return
        if names:
            model[key] = [floor, moves[:played] + names, played + len(names)]

    def step(self, source, table, entry, key, word):
        many = entry[2] if word == "undo" else len(entry[1]) - entry[2]
        count = source.randint(0, many + 1)
        if count > many:
            assert_raises(self, TooFew, {"count": many}, partial(getattr(table, word), key, count=count))
        else:
            entry[2] += -count if word == "undo" else count
            self.assertEqual(getattr(table, word)(key, count=count), all_moved(entry[0], entry[1][:entry[2]]))

    def compare(self, table, model):
        self.assertEqual(table.keys_sorted(), sorted(model))
        self.assertEqual(len(table), len(model))
        for key, (floor, moves, played) in model.items():
            self.assertEqual(table.history(key), tuple(moves[:played]))
            self.assertEqual(table.snapshot()[key], all_moved(floor, moves[:played]))
            self.assertEqual(table.floor(key), table.snapshot()[key])


class ExampleTest(unittest.TestCase):
    def test_table(self):
        table = Table()
        self.assertIs(table.place("k", (("A", "b"),)), None)
        self.assertEqual(table.play("k", ("A",)), (("b", "A"),))
        self.assertEqual(table.undo("k"), (("A", "b"),))
        self.assertEqual([table.redo("k"), table.history("k")], [(("b", "A"),), ("A",)])


if __name__ == "__main__":
    unittest.main()
