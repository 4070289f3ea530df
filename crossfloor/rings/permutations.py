"""Permutations of the gap and labels, and the exchanges with the gap that make them (points 8 and 11)."""

from crossfloor.rings.rings import GAP


def cycle_from(images, first):
    """Return the cycle of the element as a tuple that begins with it."""
    cycle = [first]
    while images[cycle[-1]] != first:
        cycle.append(images[cycle[-1]])
    return tuple(cycle)


def cycles_of(permutation):
    """Return the tuple of all nontrivial cycles, each from its least element, in ascending order of these."""
    images = dict(permutation)
    cycles = []
    seen = set()
    # The pairs ascend, so the first element that is met of a cycle is its least one.
    for first, image in permutation:
        if first != image and first not in seen:
            cycle = cycle_from(images, first)
            cycles.append(cycle)
            for name in cycle:
                seen.add(name)
    return tuple(cycles)


def product_of(first, second):
    """Return the permutation that is the first one followed by the second one."""
    images = dict(second)
    return tuple([(x, images[y]) for x, y in first])


def inverse_of(permutation):
    """Return the permutation that maps each image back."""
    return tuple(sorted([(y, x) for x, y in permutation]))


def power_of(permutation, count):
    """Return the permutation repeated so many times; a negative count repeats the inverse."""
    images = dict(permutation)
    for cycle in cycles_of(permutation):
        for at, x in enumerate(cycle):
            images[x] = cycle[(at + count) % len(cycle)]
    return tuple(sorted(images.items()))


def is_odd(permutation):
    """True if the permutation is a product of an odd number of exchanges."""
    return sum([len(cycle) - 1 for cycle in cycles_of(permutation)]) % 2 == 1


def exchanges_with_gap(ring, labels):
    """Return the permutation of the ring that the exchanges of the gap with the labels make, one after another."""
    sources = {x: x for x in ring}
    for label in labels:
        sources[GAP], sources[label] = sources[label], sources[GAP]
    return tuple(sorted([(x, y) for y, x in sources.items()]))


def has_gap(cycle):
    """True if the gap is in the cycle, which begins with its least element."""
    # The gap is less than every name.
    return cycle[0] == GAP


def gap_distance(permutation):
    """Return the least number of exchanges with the gap whose product is the permutation."""
    return sum([len(cycle) - 1 if has_gap(cycle) else len(cycle) + 1 for cycle in cycles_of(permutation)])


def least_exchange(permutation):
    """Return the least name whose exchange with the gap can come first in a shortest product.

    The permutation is not the identity.
    """
    # The first exchange brings the rest closer in two cases only: it is with the image of the gap,
    # which drops out of the gap's cycle, or with any name of another cycle, which joins the gap's.
    return min([cycle[1] if has_gap(cycle) else cycle[0] for cycle in cycles_of(permutation)])


def rest_behind(permutation, name):
    """Return what has to follow the exchange of the gap with the name to make the permutation."""
    images = dict(permutation)
    images[GAP], images[name] = images[name], images[GAP]
    return tuple(sorted(images.items()))


def gap_word(permutation):
    """Return the least of the shortest tuples of names whose exchanges with the gap make the permutation."""
    word = []
    rest = permutation
    for _ in range(gap_distance(permutation)):
        name = least_exchange(rest)
        word.append(name)
        rest = rest_behind(rest, name)
    return tuple(word)
