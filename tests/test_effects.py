"""Points 2, 5, 6, 8 and 15 and the interface of crossfloor/scripts/effects.py."""

import itertools
import random
import unittest

from crossfloor.errors import NotLeader, UnknownItem
from crossfloor.moves.cross import play
from crossfloor.rings.rings import column_ring, row_ring
from crossfloor.scripts.effects import Effect, effect_of
from tests.plain import all_moved, all_orders, leaders_on, nontrivial_cycles
from tests.samples import (
    GREAT, SAMPLES, SEARCHED, TWELVE_BY_TWELVE,
    assert_raises, led_floor, positions_of, reordered, turned,
)

FLOORS = [floor for floor, _, _ in SAMPLES] + [TWELVE_BY_TWELVE] + list(GREAT.values())
LED = [floor for floor in FLOORS if leaders_on(floor)]
LABELS = ("", "A", "Ab", "B", "Zz", "a", "ab", "abc", "k", "l", "m", "x", "zzzzzz")
MOST = 10 ** 18


def exchanged(permutation, label):
    """The permutation followed by the exchange of the gap with the label."""
    swap = {"": label, label: ""}
    return tuple((x, swap.get(y, y)) for x, y in permutation)


def effect_in_words(floor, names):
    """Point 15: the two products of the exchanges, in the order of the moves."""
    rows = tuple((label, label) for label in sorted(row_ring(floor)))
    columns = tuple((label, label) for label in sorted(column_ring(floor)))
    for name in names:
        [(row, column)] = [(row, column) for row, column, other in positions_of(floor) if other == name]
        rows = exchanged(rows, min(floor[row]))
        columns = exchanged(columns, min(turned(floor)[column]))
    return [rows, columns]


def names_for(floor, many, seed=0):
    """So many leaders of the floor, the same ones each time."""
    return tuple(random.Random(seed + many).choices(leaders_on(floor), k=many))


def identity(labels):
    return tuple((label, label) for label in sorted(labels))


def mixed(labels, source):
    """Any permutation of the labels."""
    return tuple(zip(sorted(labels), source.sample(sorted(labels), len(labels))))


def any_effects(many):
    """Effects that need not come from moves."""
    source = random.Random(18)
    return [Effect(mixed(LABELS[:source.randint(2, 13)], source), mixed(LABELS[:source.randint(2, 13)], source))
            for _ in range(many)]


def repeated(effect, count):
    """The effect so many times, by `then` alone."""
    result = Effect(identity(dict(effect.rows)), identity(dict(effect.columns)))
    for _ in range(count):
        result = result.then(effect)
    return result


def order_of(effect):
    """The least number of repetitions that change nothing, by `then` alone."""
    number, now = 1, effect
    while len(now) > 0:
        number, now = number + 1, now.then(effect)
    return number


def parts_of(effect):
    return [effect.rows, effect.columns]


class EffectOfTest(unittest.TestCase):
    def check_effect(self, floor, names):
        effect = effect_of(floor, names)
        self.assertIs(type(effect), Effect)
        self.assertEqual(parts_of(effect), effect_in_words(floor, names))
        self.assertEqual(effect.apply(floor), all_moved(floor, names))
        for permutation in parts_of(effect):
            self.assertIs(type(permutation), tuple)
            self.assertEqual([pair for pair in permutation if type(pair) is not tuple or len(pair) != 2], [])

    def test_no_names(self):
        for floor in FLOORS + SEARCHED:
            self.check_effect(floor, ())
            self.assertEqual(len(effect_of(floor, ())), 0)

    def test_one_name(self):
        for floor in LED:
            for name in leaders_on(floor)[:30]:
                self.check_effect(floor, (name,))

    def test_names_on_small_floors(self):
        for floor in SEARCHED[::3]:
            for names in itertools.islice(itertools.product(leaders_on(floor), repeat=3), 30):
                self.check_effect(floor, names)

    def test_many_names(self):
        for floor in LED:
            for many in (2, 3, 11, 60):
                self.check_effect(floor, names_for(floor, many))

    def test_most_names(self):
        for floor in (GREAT["all"], GREAT["matched"], (("A", "B", "c"),)):
            names = names_for(floor, 5000)
            self.assertEqual(effect_of(floor, names).apply(floor), play(floor, names))
            self.assertEqual(parts_of(effect_of(floor, names)), effect_in_words(floor, names))

    def test_wrong_names(self):
        floor = (("A", "b", "C"), ("d", "E", "f"))
        for wrong, kind in (("x", UnknownItem), ("X", UnknownItem), ("", UnknownItem), ("Ab", UnknownItem),
                            ("b", NotLeader), ("f", NotLeader), ("a", UnknownItem), ("A ", UnknownItem)):
            for names in ((wrong,), (wrong, "A"), ("A", wrong), ("A", "E", wrong, "C"), (wrong, "q", "d"),
                          ("A", wrong, "b"), ("C",) * 4999 + (wrong,), ("E", wrong, wrong)):
                assert_raises(self, kind, {"name": wrong}, effect_of, floor, names)

    def test_first_wrong_name(self):
        for names, kind, name in ((("A", "d", "x"), NotLeader, "d"), (("A", "x", "d"), UnknownItem, "x"),
                                  (("f", "d"), NotLeader, "f"), (("y", "x"), UnknownItem, "y")):
            assert_raises(self, kind, {"name": name}, effect_of, (("A", "b", "C"), ("d", "E", "f")), names)

    def test_wrong_names_on_great_floors(self):
        for floor in GREAT.values():
            assert_raises(self, UnknownItem, {"name": "Zzzz"}, effect_of, floor, ("Zzzz",))
            for name in [name for _, _, name in positions_of(floor) if name[0].islower()][:3]:
                assert_raises(self, NotLeader, {"name": name}, effect_of, floor, (*leaders_on(floor), name))


class AttributesTest(unittest.TestCase):
    def test_given_and_kept(self):
        rows, columns = (("", "a"), ("a", "")), (("", ""), ("b", "b"))
        for effect in (Effect(rows, columns), Effect(columns=columns, rows=rows)):
            self.assertEqual(parts_of(effect), [rows, columns])

    def test_results_have_them(self):
        effect = effect_of((("A", "b"),), ("A",))
        for other in (effect.then(effect), effect.inverse(), effect.power(7)):
            self.assertIs(type(other), Effect)
            self.assertEqual([type(part) for part in parts_of(other)], [tuple, tuple])


class ThenTest(unittest.TestCase):
    def test_moves_behind_moves(self):
        for floor in LED:
            for one, two in ((0, 3), (3, 0), (1, 1), (4, 5), (30, 17)):
                first, second = names_for(floor, one), names_for(floor, two, 99)
                effect = effect_of(floor, first).then(effect_of(floor, second))
                self.assertEqual(effect, effect_of(floor, first + second))
                self.assertEqual(effect.apply(floor), all_moved(all_moved(floor, first), second))

    def test_the_order_matters(self):
        floor = (("A", "B", "c"),)
        one, two = effect_of(floor, ("A",)), effect_of(floor, ("B",))
        self.assertEqual(one.then(two).columns, (("", "A"), ("A", "B"), ("B", ""), ("c", "c")))
        self.assertEqual(two.then(one).columns, (("", "B"), ("A", ""), ("B", "A"), ("c", "c")))
        self.assertNotEqual(one.then(two), two.then(one))

    def test_images_of_images(self):
        effects = any_effects(40)
        for one in effects:
            for two in effects:
                if dict(one.rows).keys() == dict(two.rows).keys() and \
                        dict(one.columns).keys() == dict(two.columns).keys():
                    both = one.then(two)
                    self.assertEqual(both.rows, tuple((x, dict(two.rows)[y]) for x, y in one.rows))
                    self.assertEqual(both.columns, tuple((x, dict(two.columns)[y]) for x, y in one.columns))

    def test_nothing_is_changed(self):
        for effect in any_effects(20):
            before = [*effect.rows], [*effect.columns]
            results = [(effect.then(effect), effect.inverse(), effect.power(5), repr(effect)) for _ in range(2)]
            self.assertEqual(results[0], results[1])
            self.assertEqual(([*effect.rows], [*effect.columns]), before)

    def test_argument_by_name(self):
        effect = effect_of((("A", "b"),), ("A",))
        self.assertEqual(effect.then(other=effect), effect.power(count=2))
        self.assertEqual(effect.apply(floor=(("A", "b"),)), (("b", "A"),))


class InverseTest(unittest.TestCase):
    def test_undoes_the_effect(self):
        for effect in any_effects(60):
            inverse = effect.inverse()
            nothing = repeated(effect, 0)
            self.assertEqual(parts_of(inverse.then(effect)), parts_of(nothing))
            self.assertEqual(parts_of(effect.then(inverse)), parts_of(nothing))
            self.assertEqual(parts_of(inverse.inverse()), parts_of(effect))
            self.assertEqual(inverse.rows, tuple(sorted((y, x) for x, y in effect.rows)))

    def test_moves_from_the_last_to_the_first(self):
        for floor in LED:
            names = names_for(floor, 25)
            effect = effect_of(floor, names)
            self.assertEqual(effect.inverse(), effect_of(floor, names[::-1]))
            self.assertEqual(effect.inverse().apply(floor), play(floor, names, reverse=True))
            self.assertEqual(effect.inverse().apply(effect.apply(floor)), floor)


class PowerTest(unittest.TestCase):
    def test_small_counts(self):
        for effect in any_effects(40):
            for count in (0, 1, 2, 3, 4, 5, 12, 13, 30):
                self.assertEqual(parts_of(effect.power(count)), parts_of(repeated(effect, count)))
                self.assertEqual(parts_of(effect.power(-count)), parts_of(repeated(effect.inverse(), count)))

    def test_great_counts(self):
        for effect in any_effects(30):
            order = order_of(effect)
            for count in (MOST, MOST - 1, 10 ** 17 + 3, 2 ** 59, 999999999999999989, 10 ** 9, order, order + 1):
                self.assertEqual(effect.power(count), repeated(effect, count % order))
                self.assertEqual(effect.power(-count), repeated(effect.inverse(), count % order))

    def test_moves_again_and_again(self):
        for floor in LED:
            names = names_for(floor, 7)
            effect = effect_of(floor, names)
            for count in (0, 1, 2, 9):
                self.assertEqual(effect.power(count).apply(floor), all_moved(floor, names * count))
                self.assertEqual(effect.power(-count).apply(floor), all_moved(floor, names[::-1] * count))

    def test_one_move_undoes_itself(self):
        for floor in LED:
            effect = effect_of(floor, names_for(floor, 1))
            for count in (MOST, -MOST, 2, -2, 0):
                self.assertEqual(len(effect.power(count)), 0)
            for count in (MOST - 1, 1 - MOST, 1, -1):
                self.assertEqual(effect.power(count), effect)


class ApplyTest(unittest.TestCase):
    def test_on_the_floors_that_are_reached(self):
        for floor in LED:
            names, others = names_for(floor, 9), names_for(floor, 14)
            after = all_moved(floor, others)
            self.assertEqual(effect_of(floor, names).apply(after), all_moved(after, names))
            self.assertEqual(effect_of(after, names), effect_of(floor, names))

    def test_on_every_order_of_small_floors(self):
        for floor in SEARCHED[::4]:
            if leaders_on(floor):
                names = names_for(floor, 5)
                for other in all_orders(floor)[::3]:
                    self.assertEqual(effect_of(floor, names).apply(other), all_moved(other, names))

    def test_on_other_items_with_the_same_labels(self):
        floor = (("A", "b", "x"), ("c", "y", "E"))
        self.assertEqual([row_ring(floor), column_ring(floor)], [("", "A", "E"), ("", "A", "b", "E")])
        other = (("E", "l", "k"), ("x", "b", "A"))
        self.assertEqual([row_ring(other), column_ring(other)], [("", "E", "A"), ("", "E", "b", "A")])
        for names in ((), ("A",), ("E",), ("A", "E"), ("E", "A", "E", "E", "A")):
            self.assertEqual(effect_of(floor, names).apply(other), all_moved(other, names))

    def test_any_effect_in_the_words_of_point_15(self):
        source = random.Random(20)
        for floor in FLOORS:
            effect = Effect(mixed(row_ring(floor), source), mixed(column_ring(floor), source))
            rows, columns = ([order.index(label) for label in self.read(order, permutation)]
                             for order, permutation in ((row_ring(floor)[1:], effect.rows),
                                                        (column_ring(floor)[1:], effect.columns)))
            self.assertEqual(effect.apply(floor), reordered(floor, rows, columns))

    def read(self, order, permutation):
        ring = [dict(permutation)[label] for label in ["", *order]]
        while ring[0] != "":
            ring = ring[1:] + ring[:1]
        return ring[1:]

    def test_written_out(self):
        floor = (("A", "b"), ("c", "d"))
        for rows, columns, expected in (
                ("swap", "still", (("c", "d"), ("A", "b"))), ("still", "swap", (("b", "A"), ("d", "c"))),
                ("turn", "swap", (("b", "A"), ("d", "c"))), ("swap", "turn", (("c", "d"), ("A", "b"))),
                ("swap", "swap", (("d", "c"), ("b", "A")))):
            self.assertEqual(Effect(self.named(rows, "c"), self.named(columns, "b")).apply(floor), expected)

    def named(self, word, label):
        return {"still": (("", ""), ("A", "A"), (label, label)), "swap": (("", ""), ("A", label), (label, "A")),
                "turn": (("", "A"), ("A", label), (label, ""))}[word]


class EqualTest(unittest.TestCase):
    def test_equal_effects(self):
        for effect in any_effects(20):
            same = Effect(tuple([*effect.rows]), tuple([*effect.columns]))
            self.assertIs(effect == same, True)
            self.assertIs(effect != same, False)
            self.assertIs(effect == effect, True)

    def test_one_attribute_differs(self):
        one, two = (("", ""), ("a", "a")), (("", "a"), ("a", ""))
        for first, second in itertools.product(itertools.product((one, two), repeat=2), repeat=2):
            self.assertIs(Effect(*first) == Effect(*second), first == second)
            self.assertIs(Effect(*first) != Effect(*second), first != second)

    def test_other_labels(self):
        self.assertIs(Effect((("", ""), ("a", "a")), (("", ""),)) == Effect((("", ""), ("b", "b")), (("", ""),)), False)

    def test_other_kinds(self):
        class Other:
            """Has the same attributes, and is no Effect."""
            rows = (("", "A"), ("A", ""))
            columns = (("", "A"), ("A", ""), ("b", "b"))
        effect = effect_of((("A", "b"),), ("A",))
        self.assertEqual(parts_of(effect), parts_of(Other()))
        for value in (None, 0, 2, len(effect), True, "", repr(effect), (), (effect.rows, effect.columns),
                      [effect.rows, effect.columns], effect.rows, {}, Other(), Other, Effect, object()):
            self.assertIs(effect == value, False)
            self.assertIs(value == effect, False)
            self.assertIs(effect != value, True)


class LengthTest(unittest.TestCase):
    def test_labels_that_do_not_stay(self):
        for effect in any_effects(60):
            expected = sum(x != y and x != "" for part in parts_of(effect) for x, y in part)
            self.assertEqual(len(effect), expected)

    def test_written_out(self):
        still = (("", ""), ("a", "a"), ("b", "b"))
        for rows, expected in ((still, 0), ((("", "a"), ("a", ""), ("b", "b")), 1),
                               ((("", ""), ("a", "b"), ("b", "a")), 2), ((("", "a"), ("a", "b"), ("b", "")), 2)):
            for columns in (still, (("", "a"), ("a", ""), ("b", "b"))):
                more = 0 if columns == still else 1
                self.assertEqual(len(Effect(rows, columns)), expected + more)
                self.assertEqual(len(Effect(columns, rows)), expected + more)


class WrittenFormTest(unittest.TestCase):
    def check_text(self, rows, columns, expected):
        for text in (repr(Effect(rows, columns)), str(Effect(rows, columns)), f"{Effect(rows, columns)}"):
            self.assertEqual(text, expected)
            self.assertIs(type(text), str)

    def test_written_out(self):
        still, one = (("", ""), ("a", "a")), (("", "a"), ("a", ""))
        many = (("", ""), ("A", "B"), ("B", "A"), ("a", "b"), ("b", "cc"), ("cc", "a"))
        turn = (("", "b"), ("a", ""), ("b", "a"), ("c", "d"), ("d", "c"))
        self.check_text(still, still, "Effect(- | -)")
        self.check_text(one, still, "Effect((_ a) | -)")
        self.check_text(still, one, "Effect(- | (_ a))")
        self.check_text(one, one, "Effect((_ a) | (_ a))")
        self.check_text(many, turn, "Effect((A B)(a b cc) | (_ b a)(c d))")
        self.check_text(turn, many, "Effect((_ b a)(c d) | (A B)(a b cc))")

    def test_any_effects(self):
        for effect in any_effects(60):
            texts = []
            for permutation in parts_of(effect):
                cycles = sorted(sorted(cycle) for cycle in nontrivial_cycles(permutation))
                words = [" ".join(self.walk(dict(permutation), cycle[0])) for cycle in cycles]
                texts.append("".join("(" + word + ")" for word in words) if words else "-")
            self.check_text(effect.rows, effect.columns, "Effect(" + texts[0] + " | " + texts[1] + ")")

    def walk(self, images, first):
        label = first
        while True:
            yield label or "_"
            label = images[label]
            if label == first:
                return


class FileTest(unittest.TestCase):
    def test_defined_in_this_file(self):
        for thing in (Effect, effect_of):
            self.assertEqual(thing.__module__, "crossfloor.scripts.effects")

    def test_methods_of_the_class_itself(self):
        for name in ("__init__", "then", "inverse", "power", "apply", "__eq__", "__len__", "__repr__", "__str__"):
            self.assertIn(name, vars(Effect))

    def test_arguments_by_name(self):
        self.assertEqual(effect_of(names=("A",), floor=(("A", "b"),)), effect_of((("A", "b"),), ("A",)))

    def test_led_floors_have_a_place_for_each_name(self):
        floor = led_floor(3, 3, [(0, 0), (1, 1)])
        self.assertEqual(len(effect_of(floor, names_for(floor, 1))), 2)


class ExampleTest(unittest.TestCase):
    def test_effect(self):
        effect = Effect((("", "a"), ("a", ""), ("b", "b")), (("", ""), ("a", "a")))
        self.assertEqual([repr(effect), len(effect)], ["Effect((_ a) | -)", 1])

    def test_effect_of(self):
        effect = effect_of((("A", "b"),), ("A",))
        self.assertEqual([effect.rows, effect.columns],
                         [(("", "A"), ("A", "")), (("", "A"), ("A", ""), ("b", "b"))])


if __name__ == "__main__":
    unittest.main()
