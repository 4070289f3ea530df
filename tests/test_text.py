"""Points 2, 3 and 4 and the interface of crossfloor/floors/text.py."""

import itertools
import unittest

from crossfloor.floors.text import format_floor, parse_floor
from tests.samples import (
    CHARACTERS, SAMPLES, TWELVE_BY_TWELVE, assert_bad_floor, positions_of, split_text, wrong_position,
)

BIG_TEXT = "\n".join(" ".join(names) for names in TWELVE_BY_TWELVE)
TEXTS = [text for _, text, _ in SAMPLES] + [BIG_TEXT]
FLOORS = [floor for floor, _, _ in SAMPLES] + [TWELVE_BY_TWELVE]
SHORT_TEXTS = [text for text in TEXTS if len(text) < 30]


class WrittenFormTest(unittest.TestCase):
    def test_format(self):
        for floor, text in zip(FLOORS, TEXTS, strict=True):
            self.assertEqual(format_floor(floor), text)

    def test_parse(self):
        for floor, text in zip(FLOORS, TEXTS, strict=True):
            self.assertEqual(parse_floor(text), floor)

    def test_kinds_of_values(self):
        for text in TEXTS:
            floor = parse_floor(text)
            self.assertIs(type(floor), tuple)
            self.assertEqual([row for row in floor if type(row) is not tuple], [])
            self.assertEqual([name for _, _, name in positions_of(floor) if type(name) is not str], [])
            self.assertIs(type(format_floor(floor)), str)

    def test_there_and_back(self):
        for floor, text in zip(FLOORS, TEXTS, strict=True):
            self.assertEqual(parse_floor(format_floor(floor)), floor)
            self.assertEqual(format_floor(parse_floor(text)), text)

    def test_defined_in_this_file(self):
        for function in (format_floor, parse_floor):
            self.assertEqual(function.__module__, "crossfloor.floors.text")


class WrongTextTest(unittest.TestCase):
    def check_text(self, text):
        """The text is read as the document says: split, then examined."""
        rows = split_text(text)
        place = wrong_position(rows)
        if place is None:
            self.assertEqual(parse_floor(text), rows)
        else:
            assert_bad_floor(self, place, parse_floor, text)

    def test_empty_text(self):
        assert_bad_floor(self, (0, 0), parse_floor, "")

    def test_separators_alone(self):
        for text in (" ", "\n", "  ", "\n\n", " \n", "\n ", " " * 3000, "\n" * 3000):
            assert_bad_floor(self, (0, 0), parse_floor, text)

    def test_separator_at_the_start(self):
        for text in TEXTS:
            assert_bad_floor(self, (0, 0), parse_floor, " " + text)
            assert_bad_floor(self, (0, 0), parse_floor, "\n" + text)

    def test_space_at_the_end(self):
        for text, place in (("a", (0, 1)), ("A b\nc D", (1, 2)), ("a b c", (0, 3)), ("a\nb\nc", (2, 1))):
            assert_bad_floor(self, place, parse_floor, text + " ")
            assert_bad_floor(self, place, parse_floor, text + "  ")
        assert_bad_floor(self, (11, 12), parse_floor, BIG_TEXT + " ")

    def test_newline_at_the_end(self):
        for text, place in (("a", (1, 0)), ("A b\nc D", (2, 0)), ("a b c", (1, 0)), ("a\nb\nc", (3, 0))):
            assert_bad_floor(self, place, parse_floor, text + "\n")
            assert_bad_floor(self, place, parse_floor, text + "\n\n")
        assert_bad_floor(self, (12, 0), parse_floor, BIG_TEXT + "\n")

    def test_separator_doubled(self):
        for text, place in (("A  b\nc D", (0, 1)), ("A b\nc  D", (1, 1)), ("A b\n\nc D", (1, 0)),
                            ("A b \nc D", (0, 2)), ("A b\n c D", (1, 0)), ("A \nb c\nD e", (0, 1))):
            assert_bad_floor(self, place, parse_floor, text)

    def test_separator_removed(self):
        self.assertEqual(parse_floor("Ab"), (("Ab",),))
        for text, place in (("Ab\nc D", (1, 1)), ("A b\ncD", (1, 0)), ("A b\ncd", (1, 1)), ("A bc D\ne f", (1, 2)),
                            ("A bC D", (0, 1))):
            assert_bad_floor(self, place, parse_floor, text)

    def test_separator_in_the_place_of_the_other_one(self):
        self.assertEqual(parse_floor("A\nb\nc\nD"), (("A",), ("b",), ("c",), ("D",)))
        self.assertEqual(parse_floor("A b c D"), (("A", "b", "c", "D"),))
        for text, place in (("A b\nc\nD", (1, 1)), ("A\nb\nc D", (2, 1)), ("A b c\nD", (1, 1))):
            assert_bad_floor(self, place, parse_floor, text)

    def test_every_change_of_a_separator(self):
        for text in SHORT_TEXTS:
            for at in range(len(text) + 1):
                for separator in (" ", "\n"):
                    self.check_text(text[:at] + separator + text[at:])
                    self.check_text(text[:at] + separator + text[at + 1:])
                if text[at:at + 1] in (" ", "\n"):
                    self.check_text(text[:at] + text[at + 1:])
                    self.check_text(text[:at] + text[at] + text[at:])

    def test_every_change_of_a_separator_in_a_large_text(self):
        for at in [at for at, character in enumerate(BIG_TEXT) if character in " \n"]:
            other = "\n" if BIG_TEXT[at] == " " else " "
            for put in ("", other, BIG_TEXT[at] * 2, "\n ", " \n"):
                self.check_text(BIG_TEXT[:at] + put + BIG_TEXT[at + 1:])

    def test_every_character_replaced(self):
        for text in SHORT_TEXTS:
            for at, character in itertools.product(range(len(text)), CHARACTERS):
                self.check_text(text[:at] + character + text[at + 1:])

    def test_a_character_replaced_by_hand(self):
        self.assertEqual(parse_floor("A b\nx D"), (("A", "b"), ("x", "D")))
        for text, place in (("A b\nb D", (1, 0)), ("A A\nc D", (0, 1)), ("1 b\nc D", (0, 0)), ("A b\nc -", (1, 1)),
                            ("A,b\nc D", (0, 0)), ("A b;c D", (0, 1)), ("Abcdefg", (0, 0)), ("A bC", (0, 1))):
            assert_bad_floor(self, place, parse_floor, text)

    def test_all_short_texts(self):
        for length in range(7):
            for letters in itertools.product("aB \n", repeat=length):
                self.check_text("".join(letters))

    def test_too_many_lines(self):
        letters = "abcdefghijklm"
        assert_bad_floor(self, (0, 12), parse_floor, " ".join(letters))
        assert_bad_floor(self, (12, 0), parse_floor, "\n".join(letters))
        self.assertEqual(parse_floor(" ".join(letters[:12])), (tuple(letters[:12]),))
        self.assertEqual(parse_floor("\n".join(letters[:12])), tuple((letter,) for letter in letters[:12]))

    def test_longest_texts(self):
        assert_bad_floor(self, (0, 0), parse_floor, "a" * 3000)
        assert_bad_floor(self, (0, 1), parse_floor, "a " * 1500)
        assert_bad_floor(self, (1, 0), parse_floor, "a\n" * 1500)


class SameAgainTest(unittest.TestCase):
    def test_same_result_and_same_arguments(self):
        before = repr([FLOORS, TEXTS])
        first = [[parse_floor(text), format_floor(floor)] for floor, text in zip(FLOORS, TEXTS)]
        again = [[parse_floor(text), format_floor(floor)] for floor, text in zip(FLOORS, TEXTS)]
        self.assertEqual(first, again)
        self.assertEqual(repr([FLOORS, TEXTS]), before)

    def test_same_error_again(self):
        for _ in range(3):
            assert_bad_floor(self, (1, 1), parse_floor, "A b\nc")
            self.assertEqual(parse_floor("A b"), (("A", "b"),))

    def test_arguments_by_name(self):
        self.assertEqual(format_floor(floor=(("A", "b"),)), "A b")
        self.assertEqual(parse_floor(text="A b"), (("A", "b"),))


class ExampleTest(unittest.TestCase):
    def test_format_floor(self):
        self.assertEqual(format_floor((("A", "b"), ("c", "D"))), "A b\nc D")

    def test_parse_floor(self):
        assert_bad_floor(self, (1, 1), parse_floor, "A b\nc")


if __name__ == "__main__":
    unittest.main()
