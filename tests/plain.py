"""The document's points, word by word: slow, and only for comparison with the program."""

import functools
import itertools

from tests.samples import CAPITALS, positions_of, reordered, turned

LINE_KINDS = ("row", "column")


def leaders_on(floor):
    """All leaders, in ascending order."""
    return sorted(name for _, _, name in positions_of(floor) if name[0] in CAPITALS)


def moved(floor, name):
    """Point 5, cell by cell."""
    [(row, column)] = [(row, column) for row, column, other in positions_of(floor) if other == name]
    rows = [*range(row + 1, len(floor)), row, *range(row)]
    columns = [*range(column + 1, len(floor[0])), column, *range(column)]
    return reordered(floor, rows, columns)


def all_moved(floor, names):
    """The floor after several moves."""
    for name in names:
        floor = moved(floor, name)
    return floor


def rearranged(start, goal):
    """Point 9, word by word."""
    here = {name: (row, column) for row, column, name in positions_of(start)}
    there = {name: (row, column) for row, column, name in positions_of(goal)}
    if sorted(here) != sorted(there) or [len(line) for line in start] != [len(line) for line in goal]:
        return False
    return all((here[one][side] == here[two][side]) == (there[one][side] == there[two][side])
               for one, two in itertools.combinations(sorted(here), 2) for side in (0, 1))


def row_alignments_of(start, goal):
    """All row alignments, entry by entry."""
    one = [""] + [min(names) for names in start]
    two = [""] + [min(names) for names in goal]
    many = len(one)
    found = []
    for offset in range(many):
        images = {one[at]: two[(at + offset) % many] for at in range(many)}
        found.append(tuple((text, images[text]) for text in sorted(images)))
    return tuple(found)


def is_odd_one(permutation):
    """Point 8: the pairs that stand in the wrong order, counted."""
    images = [image for _, image in permutation]
    return sum(one > two for one, two in itertools.combinations(images, 2)) % 2 == 1


def idle_row_labels(floor):
    """Point 7: the labels of the rows without a leader."""
    return sorted(min(names) for names in floor if not any(name[0] in CAPITALS for name in names))


def is_matched_floor(floor):
    """Point 7: no row and no column with two leaders."""
    lines = floor + turned(floor)
    return all(sum(name[0] in CAPITALS for name in names) < 2 for names in lines)


def partners_of(floor):
    """Point 7: the label of the column of its leader for each used row of a matched floor, and the gap."""
    partners = {"": ""}
    for row, column, name in positions_of(floor):
        if name[0] in CAPITALS:
            partners[min(floor[row])] = min(turned(floor)[column])
    return partners


def is_pair_of(floor, rows, columns):
    """Point 10: the admissible alignments are made by moves together."""
    if not is_matched_floor(floor):
        return is_odd_one(rows) == is_odd_one(columns)
    partners = partners_of(floor)
    return all(dict(columns)[partners[x]] == partners[dict(rows)[x]] for x in partners)


def admissible_rows(start, goal):
    """Point 9: the row alignments that map each idle row to itself."""
    return [alignment for alignment in row_alignments_of(start, goal)
            if all(dict(alignment)[label] == label for label in idle_row_labels(start))]


def pairs_between(start, goal):
    """Point 10: all pairs of alignments that show that moves lead from the one floor to the other."""
    pairs = itertools.product(admissible_rows(start, goal), admissible_rows(turned(start), turned(goal)))
    return [pair for pair in pairs if is_pair_of(start, *pair)]


def line_reasons(kind, start, goal):
    """Point 13: all reasons of the kind "row" for the floors, with the kind's name."""
    here = {name: row for row, _, name in positions_of(start)}
    there = {name: row for row, _, name in positions_of(goal)}
    both = sorted(set(here) & set(there))
    return [(kind, x, y) for x, y in itertools.combinations(both, 2)
            if (here[x] == here[y]) != (there[x] == there[y])]


def idle_reasons(kind, start, goal):
    """Point 13: all reasons of the kind "idle rows" for the floors, with the kind's name."""
    moving = [[label for label in idle_row_labels(start) if dict(alignment)[label] != label]
              for alignment in row_alignments_of(start, goal)]
    return [(kind, labels) for labels in itertools.product(*moving)]


def reasons_between(start, goal):
    """Point 13: all reasons, in the order of the kinds; those of one kind ascend."""
    here = {name for _, _, name in positions_of(start)}
    there = {name for _, _, name in positions_of(goal)}
    found = [("items", name) for name in sorted(here ^ there)]
    found += line_reasons("row", start, goal) + line_reasons("column", turned(start), turned(goal))
    if rearranged(start, goal):
        found += idle_reasons("idle rows", start, goal)
        found += idle_reasons("idle columns", turned(start), turned(goal))
        if not pairs_between(start, goal):
            found.append(("matching",) if is_matched_floor(start) else ("signs",))
    return found


def nontrivial_cycles(permutation):
    """Point 8: the sets of elements that go round together, without those that stay."""
    images = dict(permutation)
    found = []
    for text in images:
        cycle = {text}
        while images[text] not in cycle:
            text = images[text]
            cycle.add(text)
        if len(cycle) > 1 and cycle not in found:
            found.append(cycle)
    return found


def gap_distance_of(permutation):
    """Point 11: the labels that do not stay, and the cycles without the gap."""
    cycles = nontrivial_cycles(permutation)
    return len(set().union(*cycles) - {""}) + sum("" not in cycle for cycle in cycles)


def least_number(start, goal):
    """Point 12: the least number of moves between clear floors."""
    if is_matched_floor(start):
        return min(gap_distance_of(rows) for rows, _ in pairs_between(start, goal))
    pairs = itertools.product(row_alignments_of(start, goal), row_alignments_of(turned(start), turned(goal)))
    return min(max(gap_distance_of(rows), gap_distance_of(columns)) for rows, columns in pairs
               if is_odd_one(rows) == is_odd_one(columns))


@functools.lru_cache(maxsize=None)
def shortest_routes(start):
    """All floors that moves lead to, each with the least of the shortest routes to it. Not to be changed."""
    found = {start: ()}
    layer = {start: ()}
    while layer:
        further = {}
        for floor, route in layer.items():
            for name in leaders_on(start):
                after = moved(floor, name)
                if after not in found:
                    longer = route + (name,)
                    further[after] = min(further.get(after, longer), longer)
        found.update(further)
        layer = further
    return found


def all_orders(floor):
    """All floors that have the same rows and columns as this one."""
    return [reordered(floor, rows, columns)
            for rows in itertools.permutations(range(len(floor)))
            for columns in itertools.permutations(range(len(floor[0])))]
