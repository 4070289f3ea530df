"""Reasons why no moves lead from one floor to another one (point 13)."""

from crossfloor.errors import Unreachable
from crossfloor.reach.pairs import leading_pairs, moved_labels
from crossfloor.rings.alignments import column_alignments, is_rearrangement, row_alignments
from crossfloor.rings.rings import columns_of, idle_labels, is_matched

ITEMS = "items"
ROW = "row"
COLUMN = "column"
IDLE_ROWS = "idle rows"
IDLE_COLUMNS = "idle columns"
SIGNS = "signs"
MATCHING = "matching"


def lines_by_name(lines):
    """Return the dict from each name to the number of the line in which it stands."""
    return {name: at for at, line in enumerate(lines) for name in line}


def parted_once(before, after, x, y):
    """True if the names share a line in exactly one of the two dicts of lines by name."""
    return (before[x] == before[y]) != (after[x] == after[y])


def item_reason(start, goal):
    """Return the least reason of the kind "items", or None."""
    before = lines_by_name(start)
    after = lines_by_name(goal)
    lone = [name for name in before if name not in after] + [name for name in after if name not in before]
    return (ITEMS, min(lone)) if lone else None


def line_reason(kind, before, after):
    """Return the least reason of the kind ROW or COLUMN against these lines, or None."""
    old = lines_by_name(before)
    new = lines_by_name(after)
    names = sorted([name for name in old if name in new])
    for at, x in enumerate(names):
        for y in names[at + 1:]:
            if parted_once(old, new, x, y):
                return (kind, x, y)
    return None


def idle_reason(kind, alignments, idle):
    """Return the reason of the kind IDLE_ROWS or IDLE_COLUMNS with the least labels, or None."""
    moved = [moved_labels(alignment, idle) for alignment in alignments]
    if not all([len(labels) > 0 for labels in moved]):
        return None
    return (kind, tuple([min(labels) for labels in moved]))


def pair_reason(start, goal):
    """Return the reason of the kind SIGNS or MATCHING, or None; goal is a rearrangement of start."""
    if leading_pairs(start, goal):
        return None
    return (MATCHING,) if is_matched(start) else (SIGNS,)


def reason_against(start, goal):
    """Return None if moves lead from start to goal, otherwise the first reason in the order of point 13."""
    # If none of the first three kinds applies, goal is a rearrangement of start, as the others need it.
    return (
        item_reason(start, goal)
        or line_reason(ROW, start, goal)
        or line_reason(COLUMN, columns_of(start), columns_of(goal))
        or idle_reason(IDLE_ROWS, row_alignments(start, goal), idle_labels(start))
        or idle_reason(IDLE_COLUMNS, column_alignments(start, goal), idle_labels(columns_of(start)))
        or pair_reason(start, goal)
    )


def check_reachable(start, goal):
    """Raise Unreachable with a reason if no moves lead from start to goal."""
    reason = reason_against(start, goal)
    if reason is not None:
        raise Unreachable(reason)


def is_item_reason(start, goal, entries):
    """True if the entries behind ITEMS are one name that is on exactly one of the floors."""
    if len(entries) != 1:
        return False
    return (entries[0] in lines_by_name(start)) != (entries[0] in lines_by_name(goal))


def is_line_reason(before, after, entries):
    """True if the entries behind ROW or COLUMN are two names that make a reason against these lines."""
    old = lines_by_name(before)
    new = lines_by_name(after)
    if len(entries) != 2 or not all([name in old and name in new for name in entries]):
        return False
    x, y = entries
    return x < y and parted_once(old, new, x, y)


def is_idle_reason(alignments, idle, entries):
    """True if the entries behind IDLE_ROWS or IDLE_COLUMNS are one right label for each alignment."""
    # A string of one-letter labels is no tuple of them.
    if len(entries) != 1 or isinstance(entries[0], str) or len(entries[0]) != len(alignments):
        return False
    return all([label in moved_labels(alignment, idle) for label, alignment in zip(entries[0], alignments)])


def check_rearranged_reason(start, goal, kind, entries):
    """True if this is a reason of one of the last four kinds; goal is a rearrangement of start."""
    if kind == IDLE_ROWS:
        return is_idle_reason(row_alignments(start, goal), idle_labels(start), entries)
    if kind == IDLE_COLUMNS:
        return is_idle_reason(column_alignments(start, goal), idle_labels(columns_of(start)), entries)
    if kind != (MATCHING if is_matched(start) else SIGNS):
        return False
    return len(entries) == 0 and not leading_pairs(start, goal)


def check_reason(start, goal, reason):
    """True if the tuple is a reason (point 13), not necessarily the one that reason_against returns."""
    kind = reason[0]
    entries = reason[1:]
    if kind == ITEMS:
        return is_item_reason(start, goal, entries)
    if kind == ROW:
        return is_line_reason(start, goal, entries)
    if kind == COLUMN:
        return is_line_reason(columns_of(start), columns_of(goal), entries)
    return is_rearrangement(start, goal) and check_rearranged_reason(start, goal, kind, entries)
