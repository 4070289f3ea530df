"""Effects of sequences of moves on floors with the same labels (point 15)."""

from crossfloor.moves.cross import check_leaders
from crossfloor.rings.permutations import cycles_of, exchanges_with_gap, inverse_of, power_of, product_of
from crossfloor.rings.rings import GAP, column_ring, columns_of, labels_of, ring_of, row_ring

WRITTEN_GAP = "_"
NO_CYCLES = "-"


def labels_after(ring, permutation):
    """Return the labels of the ring in the order in which they are read when the permutation replaced them."""
    images = dict(permutation)
    replaced = tuple([images[label] for label in ring])
    gap = replaced.index(GAP)
    return replaced[gap + 1:] + replaced[:gap]


def lines_after(lines, permutation):
    """Return the lines in the order that the permutation of their labels gives them."""
    by_label = {min(line): line for line in lines}
    return tuple([by_label[label] for label in labels_after(ring_of(lines), permutation)])


def moving_labels(permutation):
    """Return the list of the labels that the permutation does not map to themselves."""
    return [x for x, y in permutation if x != y and x != GAP]


def written_cycle(cycle):
    """Return the cycle as a string in parentheses."""
    words = [WRITTEN_GAP if label == GAP else label for label in cycle]
    return "(" + " ".join(words) + ")"


def written(permutation):
    """Return the cycles of the permutation as a string."""
    return "".join([written_cycle(cycle) for cycle in cycles_of(permutation)]) or NO_CYCLES


class Effect:
    """What a sequence of moves does: a permutation of the row labels and one of the column labels."""

    def __init__(self, rows, columns):
        self.rows = rows
        self.columns = columns

    def then(self, other):
        """Return the effect of this one followed by the other one."""
        return Effect(product_of(self.rows, other.rows), product_of(self.columns, other.columns))

    def inverse(self):
        """Return the effect that undoes this one."""
        return Effect(inverse_of(self.rows), inverse_of(self.columns))

    def power(self, count):
        """Return the effect of so many repetitions; a negative count repeats the inverse."""
        return Effect(power_of(self.rows, count), power_of(self.columns, count))

    def apply(self, floor):
        """Return the floor after the effect."""
        columns = columns_of(lines_after(floor, self.rows))
        return columns_of(lines_after(columns, self.columns))

    def __eq__(self, other):
        return isinstance(other, Effect) and self.rows == other.rows and self.columns == other.columns

    def __len__(self):
        return len(moving_labels(self.rows) + moving_labels(self.columns))

    def __repr__(self):
        return f"Effect({written(self.rows)} | {written(self.columns)})"

    def __str__(self):
        return repr(self)


def effect_of(floor, names):
    """Return the effect of the moves about the leaders; raise UnknownItem or NotLeader for the first wrong name."""
    check_leaders(floor, names)
    rows = exchanges_with_gap(row_ring(floor), labels_of(floor, names))
    columns = exchanges_with_gap(column_ring(floor), labels_of(columns_of(floor), names))
    return Effect(rows, columns)
