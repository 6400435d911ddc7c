"""Lines: how wide bars are, and how they are cut into lines so that little room is left."""

from stavemill.errors import BadRoom, TooWide
from stavemill.kinds import is_whole, is_whole_within
from stavemill.signs import in_order

LEAST_ROOM = 1
MOST_ROOM = 5000
# What a bar takes up of itself, and for each place at which something begins.
BAR_WIDTH = 4
PLACE_WIDTH = 3


def checked_room(room):
    """The room; what is none is refused with BadRoom."""
    if not is_whole_within(room, LEAST_ROOM, MOST_ROOM):
        raise BadRoom("not a whole number from 1 to 5000")
    return room


def signs_in(bar):
    """How many signs are written in a bar."""
    many = 0
    for voice in bar:
        for event in voice:
            if event[0] == "note":
                many += len([head for head in event[2] if head[2] is not None])
    return many


def width(bar):
    """The width of a bar with heads."""
    # What begins at one place in several voices stands there together, one above the other.
    places = len(set([spot[0] for spot in in_order(bar)]))
    return BAR_WIDTH + PLACE_WIDTH * places + signs_in(bar)


def refuse_too_wide(widths, room):
    """Refuses with TooWide bars of which one alone is wider than the room."""
    for bar, wide in enumerate(widths):
        if wide > room:
            raise TooWide(bar)


def line_choices(widths, room, first, best):
    """For each line that can begin with a bar the tuple (cost, -behind), behind the bar that is next to it.

    The cost is that of the line and of the best lines behind it, which best tells.
    """
    choices = []
    left = room
    for behind in range(first + 1, len(widths) + 1):
        left -= widths[behind - 1]
        if left < 0:
            break
        cost = 0 if behind == len(widths) else left * left + best[behind][0]
        choices.append((cost, -behind))
    return choices


def best_lines(widths, room):
    """For each bar the tuple (cost, -behind) of the best line that begins with it."""
    # Against what is no number no width can be held; whether a number is a room, checked_room looks at alone.
    if not is_whole(room):
        raise BadRoom("not a whole number")
    refuse_too_wide(widths, room)
    best = [(0, 0)] * len(widths)
    for first in range(len(widths) - 1, -1, -1):
        # Of lines that cost alike the one with the most bars has the least tuple.
        best[first] = min(line_choices(widths, room, first, best))
    return best


def line_prices(widths, room):
    """The list that has for each bar its price; a bar that is too wide is refused with TooWide."""
    return [line[0] for line in best_lines(widths, room)]


def firsts(widths, room):
    """The list of the first bars of the lines; a bar that is too wide is refused with TooWide."""
    best = best_lines(widths, room)
    row = []
    first = 0
    while first < len(widths):
        row.append(first)
        first = -best[first][1]
    return row
