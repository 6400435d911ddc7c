"""Events: the notes and rests, of values that can be written, that fill each bar of a voice."""

from stavemill.sounds import end_of
from stavemill.values import pieces


def rest_events(length):
    """The rests that fill a length."""
    return [("rest", value) for value in pieces(length)]


def note_events(chord, first, behind):
    """The notes of a chord from a tick to ahead of another, which both lie in one bar."""
    end = end_of(chord)
    row = []
    tick = first
    for value in pieces(behind - first):
        tick += value
        # Only the piece that reaches the chord's own end is its last one, in whatever bar.
        row.append(("note", value, chord[2], tick < end))
    return row


def bar_events(voice, begin, end):
    """The events of a voice in the bar from a tick to ahead of another."""
    row = []
    filled = begin
    for chord in voice:
        first = max(chord[0], begin)
        behind = min(end_of(chord), end)
        if first < behind:
            row.extend(rest_events(first - filled))
            row.extend(note_events(chord, first, behind))
            filled = behind
    row.extend(rest_events(end - filled))
    return row


def events(voice, lengths):
    """The list that has for each bar, of these lengths, the list of a voice's events."""
    bars = []
    begin = 0
    for length in lengths:
        bars.append(bar_events(voice, begin, begin + length))
        begin += length
    return bars
