"""Row alignments and column alignments of a floor and a rearrangement of it (point 9)."""

from crossfloor.errors import NotRearranged
from crossfloor.rings.rings import column_ring, columns_of, row_ring


def groups_of(lines):
    """Return which names share a line, in a form that does not depend on the order of lines and names."""
    return sorted([sorted(line) for line in lines])


def is_rearrangement(start, goal):
    """True if goal is a rearrangement of start."""
    # The same names in each row also means the same items, and as many rows of the same length.
    return groups_of(start) == groups_of(goal) and groups_of(columns_of(start)) == groups_of(columns_of(goal))


def check_rearrangement(start, goal):
    """Raise NotRearranged if goal is not a rearrangement of start."""
    if not is_rearrangement(start, goal):
        raise NotRearranged()


def align(source, target, offset):
    """Return the permutation that maps each place of one ring to the place so much further on the other."""
    turned = target[offset:] + target[:offset]
    return tuple(sorted(zip(source, turned)))


def alignments_of(source, target):
    """Return the tuple of the alignments of two rings, in order of the offsets."""
    return tuple([align(source, target, offset) for offset in range(len(source))])


def row_alignments(start, goal):
    """Return the tuple of all row alignments; raise NotRearranged if goal is not a rearrangement."""
    check_rearrangement(start, goal)
    return alignments_of(row_ring(start), row_ring(goal))


def column_alignments(start, goal):
    """Return the tuple of all column alignments; raise NotRearranged if goal is not a rearrangement."""
    check_rearrangement(start, goal)
    return alignments_of(column_ring(start), column_ring(goal))
