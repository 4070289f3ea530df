"""The errors of the program. Each one stores its arguments in attributes of the same names."""


class CrossError(ValueError):
    """The base class of all errors of the program."""


class BadFloor(CrossError):
    """A floor is not right; (row, column) is its first wrong position."""

    def __init__(self, row, column):
        self.row = row
        self.column = column


class UnknownItem(CrossError):
    """The floor has no item of this name."""

    def __init__(self, name):
        self.name = name


class NotLeader(CrossError):
    """The item of this name is not a leader."""

    def __init__(self, name):
        self.name = name


class NotRearranged(CrossError):
    """One floor is not a rearrangement of the other one."""


class Unreachable(CrossError):
    """No moves lead to the goal; the reason is a tuple as in point 13 of the document."""

    def __init__(self, reason):
        self.reason = reason


class NotClear(CrossError):
    """The floor is not clear."""


class TooMany(CrossError):
    """More floors can be reached than the limit allows; count is the number of these floors."""

    def __init__(self, count):
        self.count = count


class BadScript(CrossError):
    """A string is not a script; index is the number of the token at which this shows."""

    def __init__(self, index):
        self.index = index


class UnknownKey(CrossError):
    """The table has no entry under this key."""

    def __init__(self, key):
        self.key = key


class TooFew(CrossError):
    """There are fewer moves to undo or redo than asked for; count is the number of those there are."""

    def __init__(self, count):
        self.count = count
