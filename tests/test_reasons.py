"""Points 2, 9, 10 and 13 and the interface of crossfloor/reach/reasons.py."""

import itertools
import random
import unittest

from crossfloor.reach.reasons import check_reason, reason_against
from tests.plain import (
    all_moved, all_orders, idle_row_labels, is_matched_floor, leaders_on, pairs_between, rearranged,
    reasons_between, row_alignments_of, shortest_routes,
)
from tests.samples import (
    GREAT, REASONS, SAMPLES, SEARCHED, TWELVE_BY_TWELVE,
    changed, positions_of, reordered, turned,
)

FLOORS = [floor for floor, _, _ in SAMPLES] + [TWELVE_BY_TWELVE] + list(GREAT.values())
KINDS = ["items", "row", "column", "idle rows", "idle columns", "signs", "matching"]


def with_renamed(floor, old, new):
    """The floor with another name for one item."""
    return tuple(tuple(new if name == old else name for name in names) for names in floor)


def with_last_exchanged(floor):
    """The floor with the first and the last item of its last row exchanged."""
    return changed(changed(floor, -1, 0, floor[-1][-1]), -1, -1, floor[-1][0])


def other_floors(start):
    """Floors that are mostly no rearrangements of this one: other names, other neighbours, other shapes."""
    names = [name for _, _, name in positions_of(start)]
    source = random.Random(len(names))
    found = [turned(start), start[1:] or start, with_renamed(start, names[-1], "zz"),
             with_renamed(start, names[0], "Zz"), with_renamed(with_renamed(start, names[0], "mm"), names[-1], "Nn")]
    found += [with_last_exchanged(start), turned(with_last_exchanged(turned(start)))]
    for _ in range(3):
        mixed = source.sample(names, len(names))
        for width in (len(start), len(start[0])):
            found.append(tuple(tuple(mixed[at:at + width]) for at in range(0, len(mixed), width)))
    return found + [with_renamed(floor, names[0], "mm") for floor in found[-2:]]


PAIRS = [(start, goal) for start in SEARCHED
         for goal in random.Random(len(start)).sample(all_orders(start), min(24, len(all_orders(start))))]
PAIRS += [(start, goal) for start in SEARCHED for goal in other_floors(start)]


class ReasonAgainstTest(unittest.TestCase):
    def check_pair(self, start, goal):
        expected = (reasons_between(start, goal) + [None])[0]
        reason = reason_against(start, goal)
        self.assertEqual(reason, expected, (start, goal))
        if reason is not None:
            self.check_kind(reason)

    def check_kind(self, reason):
        self.assertIs(type(reason), tuple)
        self.assertIn(reason[0], KINDS)
        for entry in reason:
            self.assertIn(type(entry), (str, tuple))
            if type(entry) is tuple:
                self.assertEqual([text for text in entry if type(text) is not str], [])

    def test_written_out(self):
        for start, goal, expected in REASONS:
            self.assertEqual(reason_against(start, goal), expected, (start, goal))
            self.check_pair(start, goal)

    def test_every_kind_is_written_out(self):
        first = [expected[0] for _, _, expected in REASONS if expected]
        self.assertEqual(sorted(set(first)), sorted(KINDS))
        for start, goal, expected in REASONS:
            if expected:
                kinds = [reason[0] for reason in reasons_between(start, goal)]
                self.assertEqual(min(map(KINDS.index, kinds)), KINDS.index(expected[0]))

    def test_against_the_words_of_the_document(self):
        for start, goal in PAIRS:
            self.check_pair(start, goal)

    def test_against_a_search(self):
        for start in SEARCHED:
            reached = shortest_routes(start)
            for goal in all_orders(start):
                self.assertEqual(reason_against(start, goal) is None, goal in reached, (start, goal))

    def test_a_floor_and_itself(self):
        for floor in FLOORS + SEARCHED:
            self.assertIs(reason_against(floor, floor), None)

    def test_after_moves(self):
        source = random.Random(13)
        for floor in FLOORS:
            leaders = leaders_on(floor)
            for many in (1, 2, 7, 50):
                goal = all_moved(floor, source.choices(leaders, k=many)) if leaders else floor
                self.assertIs(reason_against(floor, goal), None)
                self.assertIs(reason_against(goal, floor), None)

    def test_great_floors(self):
        source = random.Random(14)
        found = set()
        for start in GREAT.values():
            orders = [list(range(12)), [1, 0, *range(2, 12)], [*range(3, 12), 0, 1, 2], source.sample(range(12), 12)]
            for rows, columns in itertools.product(orders, repeat=2):
                goal = reordered(start, rows, columns)
                reason = reason_against(start, goal)
                self.assertEqual(reason, self.reason_of_rearrangement(start, goal))
                found.add(reason and reason[0])
        self.assertEqual(found, {None, "idle rows", "idle columns", "signs", "matching"})

    def reason_of_rearrangement(self, start, goal):
        """The reason of the last four kinds, without all the others of its kind."""
        for kind, one, two in (("idle rows", start, goal), ("idle columns", turned(start), turned(goal))):
            labels = [[label for label in idle_row_labels(one) if dict(alignment)[label] != label]
                      for alignment in row_alignments_of(one, two)]
            if all(labels):
                return (kind, tuple(entry[0] for entry in labels))
        if pairs_between(start, goal):
            return None
        return ("matching",) if is_matched_floor(start) else ("signs",)

    def test_great_floors_with_other_neighbours(self):
        for start in GREAT.values():
            names = sorted(name for _, _, name in positions_of(start))
            self.assertEqual(reason_against(start, turned(start)), self.first_line_reason(start, turned(start)))
            exchanged = changed(changed(start, 0, 0, start[0][7]), 0, 7, start[0][0])
            self.assertEqual(reason_against(start, exchanged), self.first_line_reason(start, exchanged))
            self.assertEqual(reason_against(turned(start), turned(exchanged))[0], "row")
            self.assertEqual(reason_against(start, with_renamed(start, names[5], "zzzzzz")), ("items", names[5]))
            self.assertEqual(reason_against(start, with_renamed(start, names[-1], "A")), ("items", "A"))
            self.assertEqual(reason_against(start, start[:-1]), ("items", min(start[-1])))
            self.assertEqual(reason_against(turned(turned(start)[1:]), start), ("items", min(turned(start)[0])))

    def first_line_reason(self, start, goal):
        for kind, one, two in (("row", start, goal), ("column", turned(start), turned(goal))):
            lines = [{name: row for row, _, name in positions_of(floor)} for floor in (one, two)]
            for x, y in itertools.combinations(sorted(lines[0]), 2):
                if (lines[0][x] == lines[0][y]) != (lines[1][x] == lines[1][y]):
                    return (kind, x, y)
        return None


def pairs_by_kind(many):
    """So many of the pairs for each kind of reason, and so many without a reason."""
    found = {}
    for start, goal in PAIRS:
        kind = (reasons_between(start, goal) + [(None,)])[0][0]
        found.setdefault(kind, []).append((start, goal))
    return [pair for kind in KINDS + [None] for pair in random.Random(3).sample(found[kind], many)]


def label_tuples(labels, many):
    """All tuples of so many of the labels, or some of them, and some that are shorter or longer."""
    source = random.Random(many)
    if len(labels) ** many <= 300:
        found = list(itertools.product(labels, repeat=many))
    else:
        found = [tuple(source.choices(labels, k=many)) for _ in range(300)]
    found += [entry[1:] for entry in found[::7]] + [entry + entry[:1] for entry in found[::7]]
    return found + [(), tuple(labels)]


def idle_candidates(kind, floor):
    """Tuples that may be reasons of the kind, right or wrong ones."""
    labels = sorted({min(names) for names in floor} | {name for _, _, name in positions_of(floor)[:2]}) + [""]
    found = [(kind, entry) for entry in label_tuples(labels, len(floor) + 1)]
    found += [(kind, *entry) for _, entry in found[:5]] + [(kind, entry, entry) for _, entry in found[:5]]
    return found + [(kind,), (kind, "".join(labels)), (kind, labels[0]), (kind, ())]


def line_candidates(kind, names):
    """Tuples that may be reasons of the kind, right or wrong ones."""
    found = [(kind, x, y) for x in names for y in names]
    found += [(kind, x) for x in names] + [(*entry, "") for entry in found] + [(*entry, entry[2]) for entry in found]
    return found + [(kind,), (kind, ()), (kind, (), ()), (kind, tuple(names[:2])), (kind, names[0], tuple(names[1:2])),
                    (kind, tuple(names[:1]), names[1]), (kind, tuple(names[:1]), tuple(names[1:2]))]


def candidates(start, goal):
    """Tuples that may be reasons, right or wrong ones."""
    names = sorted({name for floor in (start, goal) for _, _, name in positions_of(floor)}) + ["qq", "", "A b"]
    found = [("items", name) for name in names] + [("items", (name,)) for name in names]
    found += [("items",), ("items", ()), ("items", *names), ("items", names[0], ""), ("items", "", names[0])]
    found += [("items", name, name) for name in names]
    found += line_candidates("row", names) + line_candidates("column", names)
    found += idle_candidates("idle rows", start) + idle_candidates("idle columns", turned(start))
    for kind in ("signs", "matching", "", "sign", "Signs", "match", "rows", "idle", "item", "None", "a b"):
        found += [(kind,), (kind, ""), (kind, ()), (kind, names[0]), (kind, kind), (kind, names[0], names[1])]
    return found + [(kind + " ", *rest) for kind, *rest in reasons_between(start, goal)[:9]]


class CheckReasonTest(unittest.TestCase):
    def check(self, start, goal, reason, expected):
        self.assertIs(check_reason(start, goal, reason), expected, (start, goal, reason))

    def test_every_candidate(self):
        for start, goal in pairs_by_kind(9):
            reasons = reasons_between(start, goal)
            right = set(reasons)
            for candidate in reasons + candidates(start, goal):
                self.check(start, goal, candidate, candidate in right)

    def test_what_reason_against_returns(self):
        for start, goal in PAIRS:
            reason = reason_against(start, goal)
            if reason is not None:
                self.check(start, goal, reason, True)
                self.check(start, start, reason, False)
                self.check(start, goal, (*reason, reason[-1]), False)
                self.check(start, goal, (reason[0] + "s", *reason[1:]), False)

    def test_no_reason_where_moves_lead(self):
        for start in SEARCHED:
            goals = list(shortest_routes(start))
            for goal in goals[::max(1, len(goals) // 3)]:
                for candidate in candidates(start, goal)[::5]:
                    self.check(start, goal, candidate, False)

    def test_order_of_the_names(self):
        start, goal = (("a", "b"), ("c", "d")), (("a", "c"), ("b", "d"))
        for reason, expected in ((("row", "a", "b"), True), (("row", "b", "a"), False), (("row", "a", "a"), False),
                                 (("row", "a", "c"), True), (("row", "a", "d"), False), (("column", "a", "c"), True),
                                 (("column", "c", "a"), False), (("column", "c", "c"), False)):
            self.check(start, goal, reason, expected)

    def test_names_on_both_floors_though_items_differ(self):
        start, goal = (("a", "b", "x"), ("c", "d", "e")), (("a", "c", "y"), ("b", "d", "e"))
        for reason, expected in ((("items", "x"), True), (("items", "y"), True), (("items", "a"), False),
                                 (("row", "a", "b"), True), (("row", "a", "x"), False), (("row", "a", "y"), False),
                                 (("row", "b", "x"), False), (("column", "a", "b"), True),
                                 (("column", "e", "x"), False)):
            self.check(start, goal, reason, expected)

    def test_idle_labels(self):
        start, goal = (("a",), ("b",), ("C",)), (("b",), ("a",), ("C",))
        # The first and the third alignment move a and b, the second one b alone, the last one a alone; most move C.
        for labels, expected in ((("a", "b", "a", "a"), True), (("b", "b", "a", "a"), True),
                                 (("a", "b", "b", "a"), True), (("b", "b", "b", "a"), True),
                                 (("a", "a", "a", "a"), False), (("a", "b", "a", "b"), False),
                                 (("a", "C", "a", "a"), False), (("a", "b", "C", "a"), False),
                                 (("a", "b", "a", "C"), False), (("", "b", "a", "a"), False),
                                 (("a", "b", "a", "c"), False), (("a", "b", "a"), False),
                                 (("a", "b", "a", "a", "a"), False), ((), False)):
            self.check(start, goal, ("idle rows", labels), expected)
            self.check(turned(start), turned(goal), ("idle columns", labels), expected)
            self.check(start, goal, ("idle columns", labels), False)
        self.check(start, goal, ("idle rows", "abaa"), False)
        self.check(start, goal, ("idle rows", "a", "b", "a", "a"), False)
        self.check(start, goal, ("idle rows", ("a", "b", "a", "a"), ("a", "b", "a", "a")), False)

    def test_later_kinds_beside_idle_lines(self):
        # No alignment is admissible, so no pair of alignments is either.
        matched = ((("a",), ("b",)), (("b",), ("a",)))
        other = ((("A", "B"), ("c", "d"), ("e", "f")), (("A", "B"), ("e", "f"), ("c", "d")))
        for (start, goal), right, wrong in ((matched, "matching", "signs"), (other, "signs", "matching")):
            self.assertEqual(reason_against(start, goal)[0], "idle rows")
            self.check(start, goal, (right,), True)
            self.check(start, goal, (wrong,), False)
            self.check(turned(start), turned(goal), (right,), True)
            self.check(turned(start), turned(goal), (wrong,), False)

    def test_last_four_kinds_need_a_rearrangement(self):
        start, goal = (("a",), ("b",)), (("b",), ("c",))
        others = [(("b", "a"),), (("b",), ("c",)), (("b",), ("a",), ("c",)), (("b",),)]
        for goal in others:
            self.assertFalse(rearranged(start, goal))
            for reason in (("idle rows", ("a", "b", "a")), ("idle rows", ("a", "b")),
                           ("idle columns", ("a", "a", "a")), ("idle columns", ("b", "a")), ("matching",), ("signs",)):
                self.check(start, goal, reason, False)
        self.check((("A", "B"), ("C", "D")), (("A", "D"), ("C", "B")), ("signs",), False)
        self.check((("A", "B"), ("C", "D")), (("A", "C"), ("B", "D")), ("signs",), False)

    def test_great_floors(self):
        for start in GREAT.values():
            goal = reordered(start, [1, 0, *range(2, 12)], range(12))
            reason = reason_against(start, goal)
            kinds = {(kind,): reason is not None and is_matched_floor(start) == (kind == "matching")
                     for kind in ("signs", "matching")}
            for candidate, expected in kinds.items():
                self.check(start, goal, candidate, expected)
            if reason is not None:
                self.check(start, goal, reason, True)
            if reason is not None and len(reason) == 2:
                self.check_other_labels(start, goal, reason)

    def check_other_labels(self, start, goal, reason):
        idle = idle_row_labels(start)
        for at, alignment in enumerate(row_alignments_of(start, goal)):
            for label in [min(names) for names in start] + ["", "Zz"]:
                other = reason[1][:at] + (label,) + reason[1][at + 1:]
                expected = label in idle and dict(alignment)[label] != label
                self.check(start, goal, ("idle rows", other), expected)
                self.check(turned(start), turned(goal), ("idle columns", other), expected)


class SameAgainTest(unittest.TestCase):
    def test_same_result_and_same_arguments(self):
        triples = [(start, goal, reason) for start, goal in PAIRS[::9] for reason in (("signs",), ("row", "a", "b"))]
        before = repr(triples)
        results = [[(reason_against(start, goal), check_reason(start, goal, reason)) for start, goal, reason in triples]
                   for _ in range(2)]
        self.assertEqual(results[0], results[1])
        self.assertEqual(repr(triples), before)

    def test_arguments_by_name(self):
        start, goal = (("a",),), (("b",),)
        self.assertEqual(reason_against(goal=goal, start=start), ("items", "a"))
        self.assertIs(check_reason(reason=("items", "b"), goal=goal, start=start), True)

    def test_defined_in_this_file(self):
        for function in (reason_against, check_reason):
            self.assertEqual(function.__module__, "crossfloor.reach.reasons")


class ExampleTest(unittest.TestCase):
    def test_reason_against(self):
        self.assertEqual(reason_against((("A", "B"), ("C", "D")), (("B", "A"), ("D", "C"))), ("signs",))
        self.assertEqual(reason_against((("a", "b"), ("c", "d")), (("a", "c"), ("b", "d"))), ("row", "a", "b"))

    def test_check_reason(self):
        self.assertIs(check_reason((("a", "b"), ("c", "d")), (("a", "c"), ("b", "d")), ("column", "a", "c")), True)


if __name__ == "__main__":
    unittest.main()
