"""The pairs of a row alignment and a column alignment that moves can make (points 9 and 10)."""

from crossfloor.rings.alignments import column_alignments, row_alignments
from crossfloor.rings.permutations import is_odd
from crossfloor.rings.rings import GAP, columns_of, idle_labels, is_matched, used_rows


def moved_labels(alignment, labels):
    """Return the list of those of the labels that the alignment does not map to themselves."""
    images = dict(alignment)
    return [label for label in labels if images[label] != label]


def keeping(alignments, labels):
    """Return the list of the alignments that map each of the labels to itself."""
    return [alignment for alignment in alignments if not moved_labels(alignment, labels)]


def pairs_of_one_sign(rows, columns):
    """Return the list of the pairs of alignments that are both odd or both even."""
    row_signs = [(alignment, is_odd(alignment)) for alignment in rows]
    column_signs = [(alignment, is_odd(alignment)) for alignment in columns]
    return [(p, q) for p, p_odd in row_signs for q, q_odd in column_signs if p_odd == q_odd]


def agree_on(labels, p, q):
    """True if both permutations map each of the labels to the same one."""
    row_images = dict(p)
    column_images = dict(q)
    return all([row_images[label] == column_images[label] for label in labels])


def pairs_of_partners(floor, rows, columns):
    """Return the list of the pairs of alignments that map partners to partners on the matched floor."""
    # Leaders are less than all other items. So the one leader of a used row is the label of the row
    # and of its column, too: partners have the same label.
    labels = (GAP,) + used_rows(floor)
    return [(p, q) for p in rows for q in columns if agree_on(labels, p, q)]


def leading_pairs(start, goal):
    """Return the list of the pairs of alignments that satisfy point 10, in order of their offsets.

    Raise NotRearranged if goal is not a rearrangement of start.
    """
    rows = keeping(row_alignments(start, goal), idle_labels(start))
    columns = keeping(column_alignments(start, goal), idle_labels(columns_of(start)))
    if is_matched(start):
        return pairs_of_partners(start, rows, columns)
    return pairs_of_one_sign(rows, columns)
