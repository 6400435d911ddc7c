"""Beams: which short notes of a voice in a bar are joined."""

# A note of this value or more is not short.
NOT_SHORT = 16


def beats_of(row, beat):
    """For each event the beat in which it begins; None for what is no short note."""
    beats = []
    place = 0
    for event in row:
        short = event[0] == "note" and event[1] < NOT_SHORT
        beats.append(place // beat if short else None)
        place += event[1]
    return beats


def beams(row, beat):
    """The list of the beams (first, behind) of a voice's events in a bar."""
    beats = beats_of(row, beat)
    told = []
    first = 0
    for behind in range(1, len(row) + 1):
        if behind == len(row) or beats[behind] != beats[first]:
            if beats[first] is not None and behind - first > 1:
                told.append((first, behind))
            first = behind
    return told
