"""Notes as they are played, and the chords that they make."""

from stavemill.errors import BadNotes
from stavemill.kinds import is_list_within, is_tuple_within

MOST_NOTES = 60
# What start, length and pitch are at the least and at the most.
BOUNDS = ((0, 1000), (1, 400), (0, 127))


def end_of(sound):
    """The first tick at which a note or a chord sounds no more."""
    return sound[0] + sound[1]


def overlap(one, other):
    """Whether two notes are of one pitch and sound together at some tick."""
    return one[2] == other[2] and one[0] < end_of(other) and other[0] < end_of(one)


def overlaps_one_ahead(notes, at):
    """Whether the note at a place overlaps one that stands ahead of it in the list."""
    for ahead in notes[:at]:
        if overlap(ahead, notes[at]):
            return True
    return False


def checked_notes(notes):
    """The list of the notes in order; what is no list of notes is refused with BadNotes."""
    if not is_list_within(notes, 0, MOST_NOTES):
        raise BadNotes(None)
    for at, note in enumerate(notes):
        if not is_tuple_within(note, BOUNDS) or overlaps_one_ahead(notes, at):
            raise BadNotes(at)
    # Python sorts tuples by their first number, then the second, then the third: just the order of notes.
    return sorted(notes)


def chords(notes):
    """The list of the chords (start, length, pitches) of notes, in order."""
    pitches = {}
    # In the order of the notes chords come up in theirs, and the pitches of each rise.
    for note in sorted(notes):
        pitches.setdefault((note[0], note[1]), []).append(note[2])
    return [(span[0], span[1], tuple(pitches[span])) for span in pitches]
