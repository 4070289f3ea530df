"""The written form of floors: names separated by a space, rows separated by a newline."""

from crossfloor.floors.grid import check_floor


def format_floor(floor):
    """Return the written form of the floor."""
    return "\n".join([" ".join(names) for names in floor])


def parse_floor(text):
    """Return the floor that the text writes; raise BadFloor if the text is not the form of a floor."""
    # A bare split() would drop empty strings, and each of them is a wrong position.
    floor = tuple([tuple(line.split(" ")) for line in text.split("\n")])
    check_floor(floor)
    return floor
