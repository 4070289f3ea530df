"""Scripts: strings of moves and of groups that are repeated or reversed (points 14 and 16)."""

from math import lcm

from crossfloor.errors import BadScript
from crossfloor.floors.grid import is_name
from crossfloor.moves.cross import check_leaders
from crossfloor.rings.permutations import power_of
from crossfloor.rings.rings import column_ring, row_ring
from crossfloor.scripts.effects import effect_of, labels_after

OPEN = "("
OPEN_REVERSED = "~("
CLOSE = ")"
TIMES = "*"
DIGITS = "0123456789"
MOST_TIMES = 10 ** 18
DEEPEST = 6


def is_count(text):
    """True if the string is a repeat count: decimal digits, no leading zero, not too great."""
    if not text or not all([digit in DIGITS for digit in text]):
        return False
    if text[0] == "0":
        return text == "0"
    # Python refuses to read a number with thousands of digits, so the length is compared first.
    return len(text) <= len(str(MOST_TIMES)) and int(text) <= MOST_TIMES


def is_right(token, depth):
    """True if the token can stand where so many groups are open."""
    word, times, count = token.partition(TIMES)
    if times and not is_count(count):
        return False
    if word in (OPEN, OPEN_REVERSED):
        return not times and depth < DEEPEST
    if word == CLOSE:
        return depth > 0
    return is_name(word)


def depth_behind(token, depth):
    """Return how many groups are open behind the right token, if so many are open before it."""
    if token in (OPEN, OPEN_REVERSED):
        return depth + 1
    return depth - 1 if token.startswith(CLOSE) else depth


def split_token(token):
    """Return the pair of the name or the parenthesis and the repeat count of a right token."""
    word, times, count = token.partition(TIMES)
    return (word, int(count) if times else 1)


def read_script(script):
    """Return the list of the tokens, each with its repeat count; raise BadScript if it is no script."""
    # split() finds one empty token in the empty string, which has none.
    tokens = script.split(" ") if script else []
    depth = 0
    for index, token in enumerate(tokens):
        if not is_right(token, depth):
            raise BadScript(index)
        depth = depth_behind(token, depth)
    if depth > 0:
        raise BadScript(len(tokens))
    return [split_token(token) for token in tokens]


def names_of(parts):
    """Return the list of the names in the parts of a script, in their order."""
    return [word for word, _ in parts if is_name(word)]


def effect_of_parts(floor, parts):
    """Return the effect of the parts of a script, whose names are leaders of the floor."""
    nothing = effect_of(floor, ())
    effects = {name: effect_of(floor, (name,)) for name in sorted(set(names_of(parts)))}
    # The effects before the open groups and in the innermost one, and how the groups were opened.
    stack = [nothing]
    opened = []
    for word, count in parts:
        if word in (OPEN, OPEN_REVERSED):
            opened.append(word)
            stack.append(nothing)
        elif word == CLOSE:
            group = stack.pop()
            # Each move undoes itself, so a reversed group is the inverse of the group.
            repeated = group.power(-count if opened.pop() == OPEN_REVERSED else count)
            stack[-1] = stack[-1].then(repeated)
        else:
            stack[-1] = stack[-1].then(effects[word].power(count))
    return stack[0]


def script_effect(floor, script):
    """Return the effect of the script on the floor; raise BadScript, then UnknownItem or NotLeader."""
    parts = read_script(script)
    check_leaders(floor, names_of(parts))
    return effect_of_parts(floor, parts)


def script_length(script):
    """Return the number of moves that the script plays; raise BadScript."""
    stack = [0]
    for word, count in read_script(script):
        if word in (OPEN, OPEN_REVERSED):
            stack.append(0)
        elif word == CLOSE:
            length = stack.pop()
            stack[-1] += length * count
        else:
            stack[-1] += count
    return stack[0]


def run_script(floor, script, *, times=1):
    """Return the floor after so many runs of the script; raise the errors of script_effect."""
    return script_effect(floor, script).power(times).apply(floor)


def ring_period(ring, permutation):
    """Return the least positive number of repetitions of the permutation that leave the order of the labels."""
    number = 1
    while labels_after(ring, power_of(permutation, number)) != ring[1:]:
        number += 1
    return number


def period(floor, script):
    """Return the least positive number of runs that return the floor; raise the errors of script_effect."""
    effect = script_effect(floor, script)
    # The repetitions that leave the rows are the multiples of the least one, and so for the columns.
    return lcm(ring_period(row_ring(floor), effect.rows), ring_period(column_ring(floor), effect.columns))
