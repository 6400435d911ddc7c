"""Pages: notes written, with all that a page has, and played again."""

from stavemill.clefs import clefs
from stavemill.events import events
from stavemill.lines import checked_room, firsts, width
from stavemill.meters import bar_lengths, bars_needed, checked_meter
from stavemill.names import checked_key
from stavemill.signs import heard, signed
from stavemill.sounds import checked_notes, chords, end_of
from stavemill.voices import voiced


def bars_of(notes, meter):
    """The list that has for each bar of notes the list that has for each voice the list of its events."""
    end = max([end_of(note) for note in notes], default=0)
    lengths = bar_lengths(meter, bars_needed(meter, end))
    voices = [events(voice, lengths) for voice in voiced(chords(notes))]
    bars = []
    for number in range(len(lengths)):
        bars.append([voice[number] for voice in voices])
    return bars


def page(notes, key, meter, room):
    """The page (key, meter, room, clefs, firsts, bars) of notes, of whatever kind the four are.

    Refuses, in this order, with BadKey, BadMeter, BadNotes, BadRoom, TooThick, TooWide.
    """
    checked_key(key)
    told_meter = checked_meter(meter)
    told_notes = checked_notes(notes)
    checked_room(room)
    bars = signed(bars_of(told_notes, told_meter), key)
    widths = [width(bar) for bar in bars]
    return (key, told_meter, room, clefs(bars), firsts(widths, room), bars)


def timed(bars, lengths):
    """The tuples (voice, tick, event) of all events of bars of these lengths, in order of the bars."""
    told = []
    begin = 0
    for bar, length in zip(bars, lengths):
        for voice, row in enumerate(bar):
            tick = begin
            for event in row:
                told.append((voice, tick, event))
                tick += event[1]
        begin += length
    return told


def played(page):
    """The list of the notes that a page tells, in order."""
    bars = page[5]
    notes = []
    # For each voice whose last event is tied, the tick at which what goes on began.
    starts = {}
    for voice, tick, event in timed(heard(bars, page[0]), bar_lengths(page[1], len(bars))):
        if event[0] == "note":
            start = starts.pop(voice, tick)
            if event[3]:
                starts[voice] = start
            else:
                notes.extend([(start, tick + event[1] - start, pitch) for pitch in event[2]])
    return sorted(notes)


def remade(told):
    """The page that is made of the notes that a page tells, in its key, meter and room."""
    return page(played(told), told[0], told[1], told[2])
