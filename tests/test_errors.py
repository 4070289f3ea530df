"""Points 2 and 13 and the interface of crossfloor/errors.py."""

import inspect
import unittest

from crossfloor import errors

# Each class with the names of its arguments and two sets of values for them.
CLASSES = [
    (errors.BadFloor, ("row", "column"), [(2, 5), (0, 0)]),
    (errors.UnknownItem, ("name",), [("Abc",), ("",)]),
    (errors.NotLeader, ("name",), [("b",), ("zyxwvu",)]),
    (errors.NotRearranged, (), [(), ()]),
    (errors.Unreachable, ("reason",), [(("items", "x"),), (("signs",),)]),
    (errors.NotClear, (), [(), ()]),
    (errors.TooMany, ("count",), [(5001,), (0,)]),
    (errors.BadScript, ("index",), [(3,), (0,)]),
    (errors.UnknownKey, ("key",), [("no key\n",), ("",)]),
    (errors.TooFew, ("count",), [(0,), (7,)]),
]

# One reason of each kind of point 13.
REASONS = [
    ("items", "x"),
    ("row", "a", "b"),
    ("column", "a", "b"),
    ("idle rows", ("a", "b", "c")),
    ("idle columns", ("a",)),
    ("signs",),
    ("matching",),
]


class ErrorTest(unittest.TestCase):
    def check_attributes(self, error, names, values):
        for name, value in zip(names, values, strict=True):
            self.assertEqual(getattr(error, name), value)
            self.assertIs(type(getattr(error, name)), type(value))

    def test_made_by_position(self):
        for kind, names, examples in CLASSES:
            for values in examples:
                self.check_attributes(kind(*values), names, values)

    def test_made_by_keyword(self):
        for kind, names, examples in CLASSES:
            for values in examples:
                error = kind(**dict(zip(names, values)))
                self.check_attributes(error, names, values)

    def test_keywords_in_any_order(self):
        error = errors.BadFloor(column=5, row=2)
        self.assertEqual([error.row, error.column], [2, 5])

    def test_two_errors_share_nothing(self):
        for kind, names, (first, second) in CLASSES:
            one, two = kind(*first), kind(*second)
            self.check_attributes(one, names, first)
            self.check_attributes(two, names, second)

    def test_each_reason_is_kept_whole(self):
        for reason in REASONS:
            self.assertEqual(errors.Unreachable(reason).reason, reason)
            self.assertEqual(errors.Unreachable(reason=reason).reason, reason)

    def test_arguments_are_required(self):
        for kind, names, examples in CLASSES:
            for values in examples:
                if names:
                    self.assertRaises(TypeError, kind, *values[:-1])
                    self.assertRaises(TypeError, kind, *values, 1)

    def test_instance_of_the_base_and_of_no_other_class(self):
        for kind, _, examples in CLASSES:
            error = kind(*examples[0])
            self.assertIsInstance(error, errors.CrossError)
            self.assertIsInstance(error, ValueError)
            self.assertEqual([other for other, _, _ in CLASSES if isinstance(error, other)], [kind])

    def test_direct_subclasses(self):
        for kind, _, _ in CLASSES:
            self.assertEqual(kind.__bases__, (errors.CrossError,))
        self.assertEqual(errors.CrossError.__bases__, (ValueError,))

    def test_base_class_alone(self):
        for error in (errors.CrossError(), errors.CrossError("a text")):
            self.assertIsInstance(error, ValueError)
            self.assertEqual([kind for kind, _, _ in CLASSES if isinstance(error, kind)], [])

    def test_raised_and_caught(self):
        for kind, names, examples in CLASSES:
            for values in examples:
                for caught_by in (kind, errors.CrossError, ValueError):
                    with self.assertRaises(caught_by) as caught:
                        raise kind(*values)
                    self.check_attributes(caught.exception, names, values)

    def test_eleven_classes_of_this_file(self):
        found = [name for name, value in vars(errors).items() if inspect.isclass(value)]
        expected = ["CrossError"] + [kind.__name__ for kind, _, _ in CLASSES]
        self.assertEqual(sorted(found), sorted(expected))
        for name in found:
            self.assertEqual(getattr(errors, name).__module__, "crossfloor.errors")

    def test_example_of_the_document(self):
        error = errors.BadFloor(2, 5)
        self.assertEqual([error.row, error.column], [2, 5])


if __name__ == "__main__":
    unittest.main()
