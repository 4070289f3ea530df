"""A table of floors under keys, with a history for each of them (point 17)."""

from crossfloor.errors import TooFew, UnknownKey
from crossfloor.moves.cross import play
from crossfloor.reach.routes import find_route


class Table:
    """Floors under keys; moves can be played on each of them, undone and redone."""

    def __init__(self):
        # Each entry is a tuple of the current floor, the history, and the undone moves, the last one behind.
        self.entries = {}
        self.busy = None

    def __len__(self):
        return len(self.entries)

    def entry_of(self, key):
        """Return the entry; raise UnknownKey if there is none."""
        if key not in self.entries:
            raise UnknownKey(key)
        return self.entries[key]

    def floor_after(self, key, names, backwards):
        """Return the current floor after the moves, the last one first if backwards is True."""
        self.busy = key
        try:
            return play(self.floor(key), names, reverse=backwards)
        finally:
            self.busy = None

    def place(self, key, floor):
        """Store the floor under the key, with an empty history."""
        self.entries[key] = (floor, (), ())

    def play(self, key, names):
        """Play the moves and return the current floor; raise UnknownKey, UnknownItem or NotLeader."""
        _, history, undone = self.entry_of(key)
        floor = self.floor_after(key, names, False)
        # Only a move makes the undone moves unfit to be redone.
        self.entries[key] = (floor, history + names, () if names else undone)
        return floor

    def undo(self, key, *, count=1):
        """Undo the last moves and return the current floor; raise UnknownKey or TooFew."""
        _, history, undone = self.entry_of(key)
        if count > len(history):
            raise TooFew(len(history))
        kept = len(history) - count
        floor = self.floor_after(key, history[kept:], True)
        self.entries[key] = (floor, history[:kept], undone + history[kept:][::-1])
        return floor

    def redo(self, key, *, count=1):
        """Play the last undone moves again and return the current floor; raise UnknownKey or TooFew."""
        _, history, undone = self.entry_of(key)
        if count > len(undone):
            raise TooFew(len(undone))
        kept = len(undone) - count
        names = undone[kept:][::-1]
        floor = self.floor_after(key, names, False)
        self.entries[key] = (floor, history + names, undone[:kept])
        return floor

    def lead(self, key, goal):
        """Play moves that lead to the goal and return their number; raise UnknownKey or Unreachable."""
        route = find_route(self.floor(key), goal)
        self.play(key, route)
        return len(route)

    def floor(self, key):
        """Return the current floor; raise UnknownKey."""
        return self.entry_of(key)[0]

    def history(self, key):
        """Return the tuple of the leaders whose moves led to the current floor; raise UnknownKey."""
        return self.entry_of(key)[1]

    def keys_sorted(self):
        """Return the list of all keys in ascending order."""
        return sorted(self.entries)

    def snapshot(self):
        """Return the dictionary of the current floors by key."""
        return {key: entry[0] for key, entry in self.entries.items()}
