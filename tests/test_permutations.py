"""Points 2, 8 and 11 and the interface of crossfloor/rings/permutations.py."""

import itertools
import random
import unittest

from crossfloor.rings.permutations import cycles_of, gap_distance, gap_word, is_odd

FUNCTIONS = (cycles_of, is_odd, gap_distance, gap_word)
NAMES = ("A", "Ab", "B", "Zzzzzz", "a", "ab", "abc", "b", "k", "m", "x", "z")

# The cycles of permutations, and what is right for these: odd, the gap distance, the gap word.
WRITTEN_OUT = [
    ((), False, 0, ()),
    ((("", "a"),), True, 1, ("a",)),
    ((("a", "b"),), True, 3, ("a", "b", "a")),
    ((("", "a", "b"),), False, 2, ("a", "b")),
    ((("", "b", "a"),), False, 2, ("b", "a")),
    ((("a", "b", "c"),), False, 4, ("a", "b", "c", "a")),
    ((("a", "c", "b"),), False, 4, ("a", "c", "b", "a")),
    ((("", "c"), ("a", "b")), False, 4, ("a", "b", "a", "c")),
    ((("", "a"), ("b", "c")), False, 4, ("a", "b", "c", "b")),
    ((("", "b"), ("a", "c")), False, 4, ("a", "c", "a", "b")),
    ((("", "c", "a"), ("b", "d")), True, 5, ("b", "d", "b", "c", "a")),
    ((("a", "b"), ("c", "d")), False, 6, ("a", "b", "a", "c", "d", "c")),
    ((("a", "d"), ("b", "c")), False, 6, ("a", "b", "c", "b", "d", "a")),
]


def identity_of(names):
    return tuple((text, text) for text in sorted(("",) + tuple(names)))


def from_cycles(cycles, names):
    """The permutation of the gap and the names that has these cycles."""
    images = dict(identity_of(names))
    for cycle in cycles:
        for text, image in zip(cycle, cycle[1:] + cycle[:1], strict=True):
            images[text] = image
    return tuple(sorted(images.items()))


def all_permutations(many):
    """All permutations of the gap and so many names."""
    texts = ("",) + NAMES[:many]
    return [tuple(zip(texts, images)) for images in itertools.permutations(texts)]


def large_permutations():
    """Permutations of up to twelve names: cycles of each length with the gap and without it, several, any."""
    source = random.Random(8)
    for many in range(13):
        texts = ("",) + NAMES[:many]
        yield identity_of(NAMES[:many])
        for length in range(2, many + 2):
            yield from_cycles([texts[:length]], NAMES[:many])
            yield from_cycles([texts[:length][::-1]], NAMES[:many])
            yield from_cycles([texts[-length:]], NAMES[:many])
        pairs = [texts[at:at + 2] for at in range(1, many, 2)]
        yield from_cycles(pairs, NAMES[:many])
        yield from_cycles([pair[::-1] for pair in pairs[1:]], NAMES[:many])
        threes = [texts[at:at + 3] for at in range(many % 3, many - 1, 3)]
        yield from_cycles(threes, NAMES[:many])
        for _ in range(30):
            yield tuple(zip(texts, source.sample(texts, len(texts))))


LARGE = list(large_permutations())
SMALL_ONES = [permutation for many in range(6) for permutation in all_permutations(many)]


def made_by(word, names):
    """The product of the exchanges of the gap with the names of the word: each element is sent through all of them."""
    def sent(text):
        for name in word:
            text = {"": name, name: ""}.get(text, text)
        return text
    return tuple((text, sent(text)) for text, _ in identity_of(names))


def names_of(permutation):
    return tuple(text for text, _ in permutation if text != "")


def orbit(permutation, text):
    """The elements that one element comes to, from itself on."""
    found = [text]
    while dict(permutation)[found[-1]] not in found:
        found.append(dict(permutation)[found[-1]])
    return found


def expected_cycles(permutation):
    """The cycles: one from each element that is the least of its orbit."""
    orbits = [orbit(permutation, text) for text, _ in permutation]
    return tuple(sorted(tuple(found) for found in orbits if found[0] == min(found) and len(found) > 1))


def expected_distance(permutation):
    """Point 11."""
    moved = [text for text, image in permutation if text != "" and text != image]
    return len(moved) + len([cycle for cycle in expected_cycles(permutation) if "" not in cycle])


def exchanges_to_sort(permutation):
    """The number of exchanges of two elements after which each one is in its place."""
    images, count = dict(permutation), 0
    for text in images:
        while images[text] != text:
            other = images[text]
            images[text], images[other] = images[other], other
            count += 1
    return count


def least_words(many):
    """For each permutation the least of its shortest words, by a search in layers."""
    names = NAMES[:many]
    found = {identity_of(names): ()}
    layer = dict(found)
    while layer:
        longer = {}
        for permutation, word in layer.items():
            for name in names:
                swap = {"": name, name: ""}
                after = tuple((text, swap.get(image, image)) for text, image in permutation)
                if after not in found:
                    longer[after] = min(longer.get(after, word + (name,)), word + (name,))
        found.update(longer)
        layer = longer
    return found


class CyclesTest(unittest.TestCase):
    def check_cycles(self, permutation):
        cycles = cycles_of(permutation)
        self.assertEqual(cycles, expected_cycles(permutation))
        self.assertEqual(from_cycles(cycles, names_of(permutation)), permutation)
        self.assertEqual({type(cycle) for cycle in cycles} | {type(cycles)}, {tuple})
        self.assertEqual([text for cycle in cycles for text in cycle if type(text) is not str], [])

    def test_written_out(self):
        for cycles, _, _, _ in WRITTEN_OUT:
            self.assertEqual(cycles_of(from_cycles(cycles, "abcd")), cycles)
            self.assertEqual(cycles_of(from_cycles(cycles, "abcdefghijkl")), cycles)

    def test_the_gap_alone(self):
        self.assertEqual(cycles_of((("", ""),)), ())

    def test_all_small_ones(self):
        for permutation in SMALL_ONES:
            self.check_cycles(permutation)

    def test_up_to_twelve_names(self):
        for permutation in LARGE:
            self.check_cycles(permutation)

    def test_upper_case_first(self):
        self.assertEqual(cycles_of((("", ""), ("B", "a"), ("a", "B"))), (("B", "a"),))
        permutation = (("", ""), ("B", "C"), ("C", "B"), ("a", "b"), ("b", "a"))
        self.assertEqual(cycles_of(permutation), (("B", "C"), ("a", "b")))

    def test_trivial_between_others(self):
        permutation = (("", "b"), ("a", "c"), ("b", ""), ("c", "a"), ("d", "d"))
        self.assertEqual(cycles_of(permutation), (("", "b"), ("a", "c")))


class OddTest(unittest.TestCase):
    def check_odd(self, permutation):
        odd = is_odd(permutation)
        self.assertIs(odd, exchanges_to_sort(permutation) % 2 == 1)

    def test_written_out(self):
        for cycles, odd, _, _ in WRITTEN_OUT:
            self.assertIs(is_odd(from_cycles(cycles, "abcd")), odd)

    def test_the_gap_alone(self):
        self.assertIs(is_odd((("", ""),)), False)

    def test_all_small_ones(self):
        for permutation in SMALL_ONES:
            self.check_odd(permutation)

    def test_up_to_twelve_names(self):
        for permutation in LARGE:
            self.check_odd(permutation)

    def test_one_exchange_more_is_the_other_kind(self):
        for permutation in LARGE:
            for one, two in itertools.combinations(range(len(permutation)), 2):
                images = [image for _, image in permutation]
                images[one], images[two] = images[two], images[one]
                other = tuple(zip([text for text, _ in permutation], images))
                self.assertIs(is_odd(other), not is_odd(permutation))


class DistanceTest(unittest.TestCase):
    def test_written_out(self):
        for cycles, _, distance, _ in WRITTEN_OUT:
            self.assertEqual(gap_distance(from_cycles(cycles, "abcd")), distance)

    def test_the_gap_alone(self):
        self.assertEqual(gap_distance((("", ""),)), 0)

    def test_up_to_twelve_names(self):
        for permutation in SMALL_ONES + LARGE:
            self.assertEqual(gap_distance(permutation), expected_distance(permutation))
            self.assertIs(type(gap_distance(permutation)), int)

    def test_least_number_by_search(self):
        for many in range(6):
            found = least_words(many)
            self.assertEqual(len(found), len(all_permutations(many)))
            for permutation, word in found.items():
                self.assertEqual(gap_distance(permutation), len(word))

    def test_greatest_with_twelve_names(self):
        pairs = [NAMES[at:at + 2] for at in range(0, 12, 2)]
        self.assertEqual(gap_distance(from_cycles(pairs, NAMES)), 18)
        self.assertEqual(gap_distance(from_cycles([("",) + NAMES], NAMES)), 12)
        self.assertEqual(gap_distance(from_cycles([NAMES], NAMES)), 13)


class WordTest(unittest.TestCase):
    def check_word(self, permutation):
        word = gap_word(permutation)
        names = names_of(permutation)
        self.assertIs(type(word), tuple)
        self.assertEqual([name for name in word if name not in names], [])
        self.assertEqual(len(word), expected_distance(permutation))
        self.assertEqual(made_by(word, names), permutation)

    def test_written_out(self):
        for cycles, _, _, word in WRITTEN_OUT:
            self.assertEqual(gap_word(from_cycles(cycles, "abcd")), word)

    def test_the_gap_alone(self):
        self.assertEqual(gap_word((("", ""),)), ())

    def test_up_to_twelve_names(self):
        for permutation in SMALL_ONES + LARGE:
            self.check_word(permutation)

    def test_least_by_search(self):
        for many in range(6):
            for permutation, word in least_words(many).items():
                self.assertEqual(gap_word(permutation), word)

    def test_no_lesser_name_at_any_place(self):
        for permutation in LARGE:
            rest, word = dict(permutation), gap_word(permutation)
            for at, chosen in enumerate(word):
                for name in [name for name in names_of(permutation) if name <= chosen]:
                    other = {**rest, "": rest[name], name: rest[""]}
                    near = expected_distance(tuple(sorted(other.items()))) <= len(word) - at - 1
                    self.assertIs(near, name == chosen)
                rest = {**rest, "": rest[chosen], chosen: rest[""]}
            self.assertEqual(expected_distance(tuple(sorted(rest.items()))), 0)


class SameAgainTest(unittest.TestCase):
    def test_same_result_and_same_arguments(self):
        before = repr(LARGE)
        first = [[function(permutation) for function in FUNCTIONS] for permutation in LARGE]
        again = [[function(permutation) for function in FUNCTIONS] for permutation in LARGE]
        self.assertEqual(first, again)
        self.assertEqual(repr(LARGE), before)

    def test_arguments_by_name(self):
        for function in FUNCTIONS:
            self.assertEqual(function(permutation=LARGE[-1]), function(LARGE[-1]))

    def test_defined_in_this_file(self):
        for function in FUNCTIONS:
            self.assertEqual(function.__module__, "crossfloor.rings.permutations")


class ExampleTest(unittest.TestCase):
    def test_cycles_of(self):
        self.assertEqual(cycles_of((("", "b"), ("a", ""), ("b", "a"), ("c", "c"))), (("", "b", "a"),))

    def test_gap_distance(self):
        self.assertEqual(gap_distance((("", ""), ("a", "b"), ("b", "a"))), 3)

    def test_gap_word(self):
        self.assertEqual(gap_word((("", ""), ("a", "b"), ("b", "a"))), ("a", "b", "a"))
        self.assertEqual(gap_word((("", "a"), ("a", "b"), ("b", ""))), ("a", "b"))


if __name__ == "__main__":
    unittest.main()
