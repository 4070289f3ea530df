"""The move about a leader, and sequences of such moves (point 5)."""

from crossfloor.errors import NotLeader
from crossfloor.floors.grid import is_leader, locate


def locate_leader(floor, name):
    """Return the pair (row, column) of the leader; raise UnknownItem or NotLeader if there is none."""
    place = locate(floor, name)
    if not is_leader(name):
        raise NotLeader(name)
    return place


def check_leaders(floor, names):
    """Raise UnknownItem or NotLeader for the first of the names that is no leader of the floor."""
    for name in names:
        locate_leader(floor, name)


def crossed(line, at):
    """Return the tuple with what stands behind the index, what stands at it, and what stands before it."""
    return line[at + 1:] + line[at:at + 1] + line[:at]


def cross(floor, name):
    """Return the floor after the move about the leader; raise UnknownItem or NotLeader if it is none."""
    row, column = locate_leader(floor, name)
    return tuple([crossed(names, column) for names in crossed(floor, row)])


def play(floor, names, *, reverse=False):
    """Return the floor after the moves about the leaders, the last one first if reverse is True."""
    # Moves keep all items on the floor, so every name can be checked before the first move.
    check_leaders(floor, names)
    played = floor
    for name in names[::-1] if reverse else names:
        played = cross(played, name)
    return played
