"""Meters: how long bars are, in which bar a tick stands, and how many bars there are."""

from stavemill.errors import BadMeter
from stavemill.kinds import is_list_within, is_tuple_within

MOST_TUPLES = 20
# What bar, top and unit are at the least and at the most.
BOUNDS = ((0, 1000), (1, 24), (1, 64))
UNITS = (1, 2, 4, 8, 16, 32, 64)
SHORTEST_BAR = 8
LONGEST_BAR = 512


def told_length(told):
    """The length of the bars that a tuple (bar, top, unit) tells."""
    return told[1] * told[2]


def is_told(thing):
    """Whether a thing is a tuple (bar, top, unit) as a meter may have it."""
    if not is_tuple_within(thing, BOUNDS) or thing[2] not in UNITS:
        return False
    return SHORTEST_BAR <= told_length(thing) <= LONGEST_BAR


def rises(meter, at):
    """Whether the bar of the tuple at a place is above the one ahead, or 0 if it is the first."""
    if at == 0:
        return meter[0][0] == 0
    return meter[at][0] > meter[at - 1][0]


def checked_meter(meter):
    """The list of the tuples of a meter; what is none is refused with BadMeter."""
    if not is_list_within(meter, 1, MOST_TUPLES):
        raise BadMeter(None)
    for at, told in enumerate(meter):
        if not is_told(told) or not rises(meter, at):
            raise BadMeter(at)
    return list(meter)


def bar_lengths(meter, many):
    """The list of the lengths of the first bars, so many."""
    changes = {}
    for told in meter:
        changes[told[0]] = told_length(told)
    row = []
    length = 0
    for bar in range(many):
        length = changes.get(bar, length)
        row.append(length)
    return row


def stands(meter, tick):
    """The tuple (bar, place) of a tick."""
    bar = 0
    begin = 0
    length = 0
    for told in meter:
        told_begin = begin + (told[0] - bar) * length
        if tick < told_begin:
            break
        bar = told[0]
        begin = told_begin
        length = told_length(told)
    return (bar + (tick - begin) // length, (tick - begin) % length)


def bars_needed(meter, end):
    """The least number of bars, at least one, that do not end ahead of a tick."""
    # An end belongs to the bar of the tick ahead of it: what ends with a bar needs no further one.
    last = max(end - 1, 0)
    return stands(meter, last)[0] + 1
