"""Voices: chords put side by side so that in each one sounds at a time."""

from stavemill.errors import TooThick
from stavemill.sounds import end_of

MOST_VOICES = 8


def sounding(row, tick):
    """How many chords of a row sound at a tick."""
    return len([chord for chord in row if chord[0] <= tick < end_of(chord)])


def thickest(row):
    """The tuple (tick, many) of the first tick at which the most chords sound; (0, 0) of none."""
    tick = 0
    most = 0
    # More chords than a tick ahead sound only where one starts, so no other tick is asked.
    for chord in row:
        many = sounding(row, chord[0])
        if many > most:
            tick = chord[0]
            most = many
    return (tick, most)


def free_voice(voices, tick):
    """The least number of a voice in which no chord sounds any more at a tick, perhaps of a new one."""
    for number, voice in enumerate(voices):
        if end_of(voice[-1]) <= tick:
            return number
    return len(voices)


def voiced(row):
    """The list that has for each voice the list of its chords; too many voices are refused with TooThick."""
    voices = []
    for chord in row:
        number = free_voice(voices, chord[0])
        if number == MOST_VOICES:
            raise TooThick("more voices than there may be")
        if number == len(voices):
            voices.append([])
        voices[number].append(chord)
    return voices
