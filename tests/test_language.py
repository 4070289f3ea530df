"""Points 2, 14, 15 and 16 and the interface of crossfloor/scripts/language.py."""

import itertools
import random
import re
import unittest
from functools import partial

from crossfloor.errors import BadScript, NotLeader, UnknownItem
from crossfloor.moves.cross import play
from crossfloor.scripts.effects import Effect, effect_of
from crossfloor.scripts.language import period, run_script, script_effect, script_length
from tests.plain import all_moved, leaders_on
from tests.samples import (
    CHARACTERS, GREAT, SEARCHED, TWELVE_BY_TWELVE,
    assert_raises, full_floor, positions_of, turned,
)

MOST = 10 ** 18
TOKEN = re.compile(r"(?:[A-Za-z][a-z]{0,5}|\))(?:\*(0|[1-9][0-9]*))?|~?\(")
FLOOR = (("A", "b", "Cc", "d"), ("e", "F", "g", "Habcde"), ("I", "j", "K", "l"))
LED = [FLOOR, TWELVE_BY_TWELVE, (("A",),), (("A", "b"),), (("A",), ("B",), ("c",))]
LED += [floor for name, floor in GREAT.items() if name != "none"]

# Strings that are no scripts, with the number of the token at which this shows.
WRONG = [
    (" ", 0), ("  ", 0), (" A", 0), ("A ", 1), ("A  A", 1), ("A A  ", 2), ("( ", 1), (" ( A )", 0), ("( A ) ", 3),
    ("(", 1), ("~(", 1), ("A (", 2), ("( A", 2), ("A ( A", 3), ("( ( A )", 4), ("~( ( )*2", 3), ("( ~( ( A ) A )", 7),
    (")", 0), ("A )", 1), ("( ) )", 2), ("( A ) A )", 4), (")*2", 0), ("( )*2 )*3", 2), ("A ) ( A )", 1),
    ("~", 0), ("~)", 0), ("( ~)", 1), ("~A", 0), ("~*2", 0), ("( ~ )", 1), ("~ (", 0), ("~~(", 0), ("(~", 0),
    ("(*2", 0), ("(*2 A )", 0), ("~(*2 A )", 0), ("(*0", 0), ("(*", 0), ("~(*", 0), ("A ( (*1 A ) )", 2),
    ("()", 0), ("(A)", 0), ("( A)", 1), ("(A )", 0), ("( A )B", 2), ("( A )2", 2), ("((", 0), ("( ))", 1), ("))", 0),
    ("A*", 0), ("A**2", 0), ("A*2*3", 0), ("*2", 0), ("*", 0), ("( )*", 1), ("( )**2", 1), ("( )*2*2", 1),
    ("A*02", 0), ("A*00", 0), ("A*01", 0), ("A*000", 0), ("( )*02", 1), ("( A )*00", 2), ("A*0 A*007", 1),
    ("A*+2", 0), ("A*-2", 0), ("A*-0", 0), ("A*x", 0), ("A*2x", 0), ("A*x2", 0), ("A*1_0", 0), ("A*1,0", 0),
    ("A*1.0", 0), ("A*1e3", 0), ("A*0x1", 0), ("A*2\n", 0), ("A*\n2", 0), ("A\n*2", 0), ("A*)", 0), ("( )*A", 1),
    ("A*1000000000000000001", 0), ("A*9999999999999999999", 0), ("( A )*1000000000000000001", 2),
    ("A*10000000000000000000", 0), ("A*2000000000000000000", 0), ("A*" + "9" * 2900, 0), ("A*" + "0" * 2900, 0),
    ("A*0" + str(MOST), 0), ("( )*" + "1" * 20, 1), ("A*1 A*12 A*1000000000000000001", 2),
    ("AA", 0), ("aB", 0), ("A bC", 1), ("Abcdefg", 0), ("abcdefg", 0), ("A Abcdefg", 1), ("A1", 0), ("1A", 0),
    ("A2*2", 0), ("1", 0), ("A_b", 0), ("A.b", 0), ("A-b", 0), ("A'", 0), ("A,A", 0), ("A;A", 0), ("A\nA", 0),
    ("A\n", 0), ("\nA", 0), ("\n", 0), ("A \n", 1), ("A\n A", 0), ("[", 0), ("{ A }", 0), ("A ] A", 1), ("A=A", 0),
    ("2*A", 0), ("A *2", 1), ("A* 2", 0), ("( A ) *2", 3), ("( A )* 2", 2), ("A*2 )*2", 1), ("~( A ~)", 2),
    ("( ( ( ( ( ( (", 6), ("~( ( ~( ( ~( ( ~( ) ) ) ) ) ) )", 6), ("( ) ( ( ( ( ( ( ( A", 8),
    ("( ( ( ( ( ( ) ( ) ( ( ) ) ) ) ) )", 10), ("( ( ( ( ( ( A ) ) ) ) ) ) )", 13), ("( ( ( ( ( (", 6),
]

# Scripts with the moves that they play, written out by hand.
RIGHT = [
    ("", ""), ("A", "A"), ("A B", "A B"), ("B A B", "B A B"), ("A*0", ""), ("A*1", "A"), ("A*3 B", "A A A B"),
    ("( )", ""), ("~( )", ""), ("( )*5", ""), ("~( )*1000000000000000000", ""), ("( ~( ( ) ) )", ""),
    ("( A )", "A"), ("( A B )", "A B"), ("( A B )*2", "A B A B"), ("( A B )*0", ""), ("( A B )*1 A", "A B A"),
    ("~( A )", "A"), ("~( A B )", "B A"), ("~( A B C )", "C B A"), ("~( A B )*2", "B A B A"), ("~( A B )*0 C", "C"),
    ("~( A*2 B )", "B A A"), ("C ~( A B ) C", "C B A C"), ("( A B*2 )*2 C", "A B B A B B C"),
    ("~( ( A B ) C )", "C B A"), ("~( ( A B )*2 C )", "C B A B A"), ("~( ~( A B ) C )", "C A B"),
    ("~( ~( A B ) )", "A B"), ("~( ~( A B )*2 C )*2", "C A B A B C A B A B"),
    ("( A ~( B C )*2 )*2", "A C B C B A C B C B"),
    ("( A ( B )*0 C )*2", "A C A C"), ("( A ) ( B )", "A B"), ("( A ( B ( C ) ) )*2", "A B C A B C"),
    ("~( ~( ~( A B C ) ) )", "C B A"), ("( ( ( ( ( ( A B ) ) ) ) ) )", "A B"),
    ("~( ~( ~( ~( ~( ~( A B )*2 ) ) ) ) ) C", "A B A B C"), ("( ) A ( ) B ~( ) C", "A B C"),
]


def wrong_token(script):
    """Point 14: the number of the first token that is wrong, or None."""
    tokens = script.split(" ") if script else []
    groups = 0
    for index, token in enumerate(tokens):
        match = TOKEN.fullmatch(token)
        if match is None or int(match[1] or 0) > MOST:
            return index
        groups += (token in ("(", "~(")) - (token[0] == ")")
        if groups < 0 or groups > 6:
            return index
    return len(tokens) if groups else None


def moves_of(script):
    """Point 14: all moves of the script, one after another."""
    open_groups, signs = [[]], []
    for token in script.split(" ") if script else []:
        word, _, count = token.partition("*")
        if word in ("(", "~("):
            open_groups.append([])
            signs.append(word)
        elif word == ")":
            group = open_groups.pop()
            open_groups[-1] += (group[::-1] if signs.pop() == "~(" else group) * int(count or "1")
        else:
            open_groups[-1] += [word] * int(count or "1")
    return tuple(open_groups[0])


def any_script(source, names, counts, depth=0, many=6):
    """A right script with groups, whose counts are taken from the given ones."""
    tokens = []
    for _ in range(source.randint(0, many)):
        count = source.choice(counts + [None, None])
        behind = "" if count is None else "*" + str(count)
        if depth < 6 and source.random() < 0.4:
            inner = any_script(source, names, counts, depth + 1, many - 1)
            tokens += [source.choice(["(", "~("])] + inner.split() + [")" + behind]
        else:
            tokens.append(source.choice(names) + behind)
    return " ".join(tokens)


def scripts_for(floor, counts, many, seed):
    source = random.Random(seed)
    return [any_script(source, leaders_on(floor), counts) for _ in range(many)]


def followed(one, two):
    return tuple({x: after[y] for x, y in before.items()} for before, after in zip(one, two))


def many_times(pair, count):
    """The pair of permutations so many times, by doubling."""
    result = tuple({x: x for x in images} for images in pair)
    while count > 0:
        result = followed(result, pair) if count % 2 else result
        pair, count = followed(pair, pair), count // 2
    return result


def effect_in_words(floor, script):
    """Points 14 and 15: the pair of permutations of a script with great counts."""
    still = tuple(dict(part) for part in (effect_of(floor, ()).rows, effect_of(floor, ()).columns))
    open_groups, signs = [still], []
    for token in script.split(" ") if script else []:
        word, _, count = token.partition("*")
        if word in ("(", "~("):
            open_groups.append(still)
            signs.append(word)
            continue
        if word == ")":
            step = open_groups.pop()
            if signs.pop() == "~(":
                step = tuple({y: x for x, y in images.items()} for images in step)
        else:
            one = effect_of(floor, (word,))
            step = (dict(one.rows), dict(one.columns))
        open_groups[-1] = followed(open_groups[-1], many_times(step, int(count or "1")))
    return [tuple(sorted(images.items())) for images in open_groups[0]]


def calls_of(floor, script):
    """The calls of all functions that read the script."""
    return [partial(script_effect, floor, script), partial(run_script, floor, script),
            partial(run_script, floor, script, times=0), partial(run_script, floor, script, times=MOST),
            partial(period, floor, script)]


class ScriptTest(unittest.TestCase):
    def check_moves(self, floor, script, names):
        effect = script_effect(floor, script)
        self.assertIs(type(effect), Effect)
        self.assertEqual(effect, effect_of(floor, names), script)
        self.assertEqual(effect.apply(floor), all_moved(floor, names))
        self.assertEqual(run_script(floor, script), all_moved(floor, names))
        self.assertEqual(script_length(script), len(names))

    def test_written_out(self):
        for script, moves in RIGHT:
            names = tuple(moves.split())
            self.assertEqual(moves_of(script), names)
            for floor in ((("A", "B", "C"),), (("A", "x"), ("B", "y"), ("C", "z")), (("A", "b", "y"), ("c", "B", "C"))):
                self.check_moves(floor, script, names)

    def test_any_scripts(self):
        for seed, floor in enumerate(LED):
            for script in scripts_for(floor, [0, 1, 2, 3], 25, seed):
                names = moves_of(script)
                if len(names) <= 3000:
                    self.check_moves(floor, script, names)

    def test_great_counts(self):
        for seed, floor in enumerate(LED):
            for script in scripts_for(floor, [0, 1, MOST, MOST - 1, 7 ** 20, 2, 999], 12, 50 + seed):
                effect = script_effect(floor, script)
                self.assertEqual([effect.rows, effect.columns], effect_in_words(floor, script), script)

    def test_great_counts_on_several_levels(self):
        for floor in ((("A", "B", "C"),), full_floor(4, 3), FLOOR):
            one, two, three = (leaders_on(floor) * 3)[:3]
            for inner, outer in itertools.product((0, 1, 2, MOST - 1, MOST), repeat=2):
                six = f"( ( ( ( ( ( {one} {three} {two} )*{inner} )*{outer} )*7 )*{outer} )*{inner} )*{outer}"
                for script in (f"( {one} ~( {two} {three}*{inner} {one} )*{inner} )*{outer}",
                               f"~( ( {one} {two} )*{inner} {three} )*{outer} {one}", six):
                    effect = script_effect(floor, script)
                    self.assertEqual([effect.rows, effect.columns], effect_in_words(floor, script), script)

    def test_empty_script(self):
        for floor in LED + SEARCHED + [GREAT["none"]]:
            self.check_moves(floor, "", ())
            self.assertEqual(period(floor, ""), 1)

    def test_longest_scripts(self):
        floor = GREAT["all"]
        names = (leaders_on(floor) * 9)[:1000]
        self.assertLessEqual(len(" ".join(names)), 3000)
        self.check_moves(floor, " ".join(names), names)
        self.check_moves((("A", "B", "C"),), "A B C " * 499 + "A B", ("A", "B", "C") * 499 + ("A", "B"))
        self.check_moves((("A", "B", "C"),), "( ) " * 600 + "A", ("A",))

    def test_other_labels_than_leaders(self):
        for floor in SEARCHED[::3]:
            if leaders_on(floor):
                for script in scripts_for(floor, [0, 2, 5], 4, 3):
                    if len(moves_of(script)) < 2000:
                        self.check_moves(floor, script, moves_of(script))


class LengthTest(unittest.TestCase):
    def check_length(self, script, expected):
        length = script_length(script)
        self.assertEqual(length, expected)
        self.assertIs(type(length), int)

    def test_great_lengths(self):
        for script, expected in ((f"A*{MOST}", MOST), (f"( A*{MOST} )*{MOST}", MOST ** 2),
                                 (f"( A B )*{MOST} A", 2 * MOST + 1), (f"( A*{MOST} )*0", 0),
                                 (f"~( A*{MOST} B*0 )*{MOST - 1} A*5", MOST * (MOST - 1) + 5),
                                 (f"( ( A*{MOST} )*0 B )*{MOST}", MOST), (f"( )*{MOST}", 0), ("A*0", 0), ("", 0)):
            self.check_length(script, expected)
        six = f"A*{MOST} B"
        for level in range(1, 7):
            six = f"{'~(' if level % 2 else '('} {six} )*{MOST}"
            self.check_length(six, (MOST + 1) * MOST ** level)

    def test_any_scripts(self):
        for script in scripts_for(FLOOR, [0, 1, 2, 3], 150, 4):
            self.check_length(script, len(moves_of(script)))

    def test_no_floor_is_looked_at(self):
        self.check_length("a b Zzzzzz*4 ( q )*3", 9)


class RunTest(unittest.TestCase):
    def test_times(self):
        for seed, floor in enumerate(LED):
            for script in scripts_for(floor, [0, 1, 2], 6, 70 + seed):
                names = moves_of(script)
                if len(names) < 1000:
                    for times in (0, 1, 2, 5):
                        after = run_script(floor, script, times=times)
                        self.assertEqual(after, all_moved(floor, names * times))
                    self.assertEqual(run_script(floor, script), run_script(floor, script, times=1))

    def test_most_times(self):
        for seed, floor in enumerate(LED):
            for script in scripts_for(floor, [0, 1, MOST, 3], 8, 90 + seed):
                for times in (MOST, MOST - 1, 10 ** 9 + 7):
                    effect = script_effect(floor, script)
                    rows, columns = many_times((dict(effect.rows), dict(effect.columns)), times)
                    expected = Effect(tuple(sorted(rows.items())), tuple(sorted(columns.items()))).apply(floor)
                    self.assertEqual(run_script(floor, script, times=times), expected)

    def test_times_of_a_known_script(self):
        floor = (("A", "B", "c"),)
        # One run turns three of the columns.
        seen = [run_script(floor, "A B", times=times) for times in range(7)]
        self.assertEqual(seen[0], floor)
        self.assertEqual(seen[3:], seen[:4])
        self.assertEqual(run_script(floor, "A B", times=MOST), seen[1])
        self.assertEqual(run_script(floor, "A B", times=MOST - 1), seen[0])

    def test_no_run(self):
        for floor in LED:
            self.assertEqual(run_script(floor, leaders_on(floor)[0], times=0), floor)


class PeriodTest(unittest.TestCase):
    def check_period(self, floor, script):
        number = period(floor, script)
        self.assertIs(type(number), int)
        self.assertGreater(number, 0)
        return number

    def test_against_playing_again_and_again(self):
        for seed, floor in enumerate(SEARCHED[::2]):
            for script in scripts_for(floor, [0, 1, 2, 3], 6, seed) if leaders_on(floor) else [""]:
                names = moves_of(script)
                if len(names) < 500:
                    number, after = 1, all_moved(floor, names)
                    while after != floor:
                        number, after = number + 1, play(after, names)
                    self.assertEqual(self.check_period(floor, script), number, (floor, script))

    def test_no_proper_divisor(self):
        found = set()
        for seed, floor in enumerate(LED):
            for script in scripts_for(floor, [0, 1, 2, MOST, 5], 8, 30 + seed) + [*self.long_scripts(floor)]:
                number = self.check_period(floor, script)
                found.add(number)
                self.assertEqual(run_script(floor, script, times=number), floor)
                self.assertEqual(run_script(floor, script, times=number * 1000003), floor)
                for divisor in [part for part in range(1, number) if number % part == 0]:
                    self.assertNotEqual(run_script(floor, script, times=divisor), floor)
        self.assertGreater(max(found), 100)

    def long_scripts(self, floor):
        source = random.Random(24)
        for count in (1, MOST, MOST - 1):
            first, second, third = (" ".join(source.choices(leaders_on(floor), k=many)) for many in (20, 15, 7))
            yield f"( {first} )*{count} ~( {second} ( {third} )*{count} )*3"

    def test_less_than_the_order_of_the_effect(self):
        for floor, script, expected in (((("A", "B"),), "A B", 1), ((("A", "B", "C"),), "A B C", 1),
                                        ((("A", "B", "C"),), "A B C A B C", 1), ((("A", "B", "C"),), "B C", 3),
                                        ((("A", "B", "c"),), "A B", 3), ((("A", "b"),), "A", 2),
                                        ((("A", "b"), ("c", "D")), "A D", 1), ((("A",),), "A", 1)):
            self.assertEqual(self.check_period(floor, script), expected, (floor, script))
            self.assertEqual(self.check_period(turned(floor), script), expected)

    def test_rows_and_columns_with_other_periods(self):
        floor = GREAT["all"]
        names = {(row, column): name for row, column, name in positions_of(floor)}
        # Exchanges of the gap with n different labels are a cycle of n + 1 elements.
        for rows, columns, expected in (((0, 1, 2, 3), (0, 1, 0, 1), 5 * 3), ((0, 0, 0, 1), (3, 1, 5, 2), 3 * 5),
                                        ((0, 1, 2, 3, 4, 5), (0, 1, 2, 0, 1, 2), 7 * 2),
                                        ((4, 4, 5, 5), (0, 1, 0, 1), 3),
                                        ((0, 1, 2, 3), (0, 0, 5, 5), 5), ((0, 1, 2, 3), (9, 7, 8, 6), 5)):
            script = " ".join(names[place] for place in zip(rows, columns))
            self.assertEqual(self.check_period(floor, script), expected)


class BadScriptTest(unittest.TestCase):
    def check_bad(self, script, index):
        for floor in (FLOOR, (("a",),)):
            for call in calls_of(floor, script) + [partial(script_length, script)]:
                assert_raises(self, BadScript, {"index": index}, call)

    def test_written_out(self):
        for script, index in WRONG:
            self.assertEqual(wrong_token(script), index, script)
            self.check_bad(script, index)

    def test_right_ones(self):
        others = ["A*0", "A*1000000000000000000", "( )*0", "A*10", "A*999999999999999999", "( A*9 )*90", "a abcdef"]
        for script in [script for script, _ in RIGHT] + others:
            self.assertIs(wrong_token(script), None)
            self.assertIs(type(script_length(script)), int)

    def test_any_tokens(self):
        source = random.Random(21)
        tokens = ["A", "Cc", "F*2", "I*0", "K*1000000000000000000", "(", "~(", ")", ")*3", "(", ")"]
        wrong = ["", "A*", "(*2", "~", "a1", "A*01", "Abcdefg", "A*1000000000000000001", ")*", "()"]
        found = {True: 0, False: 0}
        for _ in range(3000):
            chosen = source.choices(tokens, k=source.randint(1, 12))
            if source.random() < 0.3:
                chosen.insert(source.randint(0, len(chosen)), source.choice(wrong))
            found[self.check_any(" ".join(chosen))] += 1
        self.assertGreater(min(found.values()), 100)

    def test_any_characters(self):
        source = random.Random(22)
        for _ in range(3000):
            self.check_any("".join(source.choices("A() ~*120b", k=source.randint(1, 9))))
        for character in CHARACTERS:
            for script in (character, "A " + character, "A" + character, "A*" + character, "( A )" + character):
                self.check_any(script)

    def check_any(self, script):
        index = wrong_token(script)
        if index is None:
            self.assertIs(type(script_length(script)), int)
        else:
            assert_raises(self, BadScript, {"index": index}, script_length, script)
        return index is None

    def test_more_digits_than_python_reads(self):
        for digits in ("9" * 5000, "1" + "0" * 9000):
            for script, index in (("A*" + digits, 0), ("( A )*" + digits + " A", 2)):
                self.check_bad(script, index)

    def test_hundreds_of_right_tokens_before(self):
        for many in (100, 777):
            for wrong in ("A*", "(*2", "~", ")", "", "A*01", "Abcdefg", "a1"):
                self.check_bad("A " * many + wrong, many)
                self.check_bad("A " * many + wrong + " A ) ~ A*", many)
                self.check_bad("( " + "A " * many + ") " + wrong, many + 2)
            self.check_bad("( A ) " * (many // 2) + "( A", many // 2 * 3 + 2)

    def test_depth(self):
        for signs in itertools.product(("(", "~("), repeat=6):
            right = " ".join([*signs, "A", *")" * 6])
            self.assertEqual(script_length(right), 1)
            self.assertEqual(script_length(right + " " + right), 2)
            for seventh in ("(", "~("):
                self.check_bad(" ".join([*signs, seventh, "A", *")" * 7]), 6)
                self.check_bad(" ".join(["A", *signs, "A", seventh]), 8)
                self.check_bad(" ".join([*signs, ")", seventh, seventh]), 8)

    def test_not_closed(self):
        for groups in range(1, 7):
            self.check_bad(" ".join(["("] * groups), groups)
            self.check_bad(" ".join(["("] * groups + ["A*3"]), groups + 1)
            self.check_bad(" ".join(["~("] * groups + [")"] * (groups - 1)), 2 * groups - 1)

    def test_before_wrong_names(self):
        for script, index in (("x A (", 3), ("b X ~", 2), ("( q )*0 )", 3), ("d A*", 1), ("A x ( ( A )", 6)):
            self.check_bad(script, index)


class WrongNamesTest(unittest.TestCase):
    def check_wrong(self, script, kind, name):
        self.assertIs(type(script_length(script)), int)
        for call in calls_of(FLOOR, script):
            assert_raises(self, kind, {"name": name}, call)

    def test_each_place(self):
        for wrong, kind in (("x", UnknownItem), ("X", UnknownItem), ("Zzzzzz", UnknownItem), ("b", NotLeader),
                            ("l", NotLeader), ("a", UnknownItem), ("C", UnknownItem), ("cc", UnknownItem)):
            for script in (wrong, wrong + "*0", wrong + "*3", "A " + wrong, wrong + " A", "A " + wrong + " F",
                           "( " + wrong + " )", "( A " + wrong + " )*0", "~( " + wrong + " A )*2",
                           "( " + wrong + "*0 )*0", "( ( ( ( ( ( " + wrong + " ) )*0 ) )*0 ) ) A",
                           "A F " * 200 + wrong):
                self.check_wrong(script, kind, wrong)

    def test_first_in_the_order_of_the_string(self):
        for script, kind, name in (("x b", UnknownItem, "x"), ("b x", NotLeader, "b"), ("~( b x )", NotLeader, "b"),
                                   ("~( x b )", UnknownItem, "x"), ("( x )*0 b", UnknownItem, "x"),
                                   ("A*0 ( F ~( d ) )*0 y", NotLeader, "d"), ("y d", UnknownItem, "y"),
                                   ("A ( ) ~( g l )*2 b", NotLeader, "g")):
            self.check_wrong(script, kind, name)

    def test_great_floors(self):
        for floor in GREAT.values():
            other = [name for _, _, name in positions_of(floor) if name[0].islower()][:1]
            for name, kind in [("Zzzz", UnknownItem)] + [(name, NotLeader) for name in other]:
                for call in calls_of(floor, " ".join([*leaders_on(floor), "( " + name + " )*0"])):
                    assert_raises(self, kind, {"name": name}, call)


class SameAgainTest(unittest.TestCase):
    def test_same_result_and_same_arguments(self):
        scripts = scripts_for(FLOOR, [0, 1, MOST], 40, 5)
        before = repr((FLOOR, scripts))
        calls = [script_effect, run_script, period, lambda _, script: script_length(script)]
        results = [[call(FLOOR, script) for script in scripts for call in calls] for _ in range(2)]
        self.assertEqual(results[0], results[1])
        self.assertEqual(repr((FLOOR, scripts)), before)

    def test_arguments_by_name(self):
        floor = (("A", "b"),)
        self.assertEqual(script_effect(script="A", floor=floor), effect_of(floor, ("A",)))
        self.assertEqual(script_length(script="A*2"), 2)
        self.assertEqual(run_script(times=3, script="A", floor=floor), (("b", "A"),))
        self.assertEqual(period(script="A", floor=floor), 2)

    def test_times_by_keyword_only(self):
        with self.assertRaises(TypeError):
            run_script((("A", "b"),), "A", 2)

    def test_defined_in_this_file(self):
        for function in (script_effect, script_length, run_script, period):
            self.assertEqual(function.__module__, "crossfloor.scripts.language")


class ExampleTest(unittest.TestCase):
    def test_script_effect(self):
        assert_raises(self, BadScript, {"index": 3}, script_effect, (("A", "b"),), "A ( A")

    def test_script_length(self):
        self.assertEqual(script_length("A ( B*2 C )*1000000000000000000"), 3000000000000000001)

    def test_run_script(self):
        self.assertEqual(run_script((("A", "B", "c"),), "A ~( A B )"), (("B", "A", "c"),))

    def test_period(self):
        self.assertEqual(period((("A", "B"),), "A B"), 1)


if __name__ == "__main__":
    unittest.main()
