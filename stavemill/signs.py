"""Signs: pitches written as heads, with a sign where one is needed, and read back."""

from stavemill.names import name_of, own_alter, pitch_of


def in_order(bar):
    """The tuples (place, voice, number) of a bar's events, in the order in which they are looked at."""
    spots = []
    for voice, row in enumerate(bar):
        place = 0
        for number, event in enumerate(row):
            spots.append((place, voice, number))
            place += event[1]
    return sorted(spots)


def tied_to_next(event):
    """The pitches or heads of an event that is tied to the next one; None of others, or of no event."""
    if event is None or event[0] == "rest" or not event[3]:
        return None
    return event[2]


def alter_by_then(letter, octave, alters, key):
    """The alter that a letter of an octave has, after the alters that were written in the bar."""
    return alters.get((letter, octave), own_alter(letter, key))


def heads_of(pitches, tied, alters, key):
    """The heads of pitches; alters, those written in the bar by then, take up each new sign."""
    heads = []
    # Pitches rise in their tuple, so the least is looked at first.
    for pitch in pitches:
        name = name_of(pitch, key)
        letter = name[0]
        octave = name[2]
        sign = None
        if tied is None and alter_by_then(letter, octave, alters, key) != name[1]:
            sign = name[1]
            alters[(letter, octave)] = sign
        heads.append((letter, octave, sign))
    return tuple(heads)


def pitches_of(heads, tied, alters, key):
    """The pitches of heads; alters, those written in the bar by then, take up each sign."""
    if tied is not None:
        # What goes on from a tie sounds as what it goes on from, whatever is written at it.
        return tied
    pitches = []
    for head in heads:
        letter = head[0]
        octave = head[1]
        if head[2] is not None:
            alters[(letter, octave)] = head[2]
        pitches.append(pitch_of((letter, alter_by_then(letter, octave, alters, key), octave)))
    return tuple(pitches)


def turned(bars, key, turn):
    """New bars, the pitches or heads of each note turned in the order in which notes are looked at."""
    told = []
    # The event that was last told in each voice: ties reach from bar to bar.
    ahead = {}
    for bar in bars:
        alters = {}
        rows = [[] for row in bar]
        for spot in in_order(bar):
            voice = spot[1]
            event = bar[voice][spot[2]]
            if event[0] == "note":
                tied = tied_to_next(ahead.get(voice))
                event = ("note", event[1], turn(event[2], tied, alters, key), event[3])
            rows[voice].append(event)
            ahead[voice] = event
        told.append(rows)
    return told


def signed(bars, key):
    """Bars of events with pitches, written with heads."""
    return turned(bars, key, heads_of)


def heard(bars, key):
    """Bars of events with heads, read back to pitches."""
    return turned(bars, key, pitches_of)
