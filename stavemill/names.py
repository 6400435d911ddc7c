"""Names: what a pitch is called in a key, and which pitch a name has."""

from stavemill.errors import BadKey
from stavemill.kinds import is_whole_within

LOWEST_KEY = -7
HIGHEST_KEY = 7
# The first one, without an alter, is fifth -1.
LETTERS_BY_FIFTHS = "FCGDAEB"
# The pitch that each letter has in octave 0 without an alter.
PITCHES = {"C": 0, "D": 2, "E": 4, "F": 5, "G": 7, "A": 9, "B": 11}


def checked_key(key):
    """The key; what is none is refused with BadKey."""
    if not is_whole_within(key, LOWEST_KEY, HIGHEST_KEY):
        raise BadKey("not a whole number from -7 to 7")
    return key


def first_alike(low, number, divisor):
    """The first number from low on that leaves by a divisor the rest that a number leaves."""
    return low + (number - low) % divisor


def fifth(pitch, key):
    """The one fifth, from four below the key to seven above it, that a pitch has."""
    # 7 times 7 leaves 1 by 12, so a fifth comes from its pitch as the pitch comes from the fifth.
    return first_alike(key - 4, 7 * pitch, 12)


def alter_at(fifths):
    """The alter of the letter that stands at so many fifths from C."""
    return (fifths + 1) // 7


def name_of(pitch, key):
    """The name (letter, alter, octave) of a pitch in a key."""
    fifths = fifth(pitch, key)
    letter = LETTERS_BY_FIFTHS[(fifths + 1) % 7]
    alter = alter_at(fifths)
    # The alter goes first: a B sharp stands in the octave below that of the C that sounds alike.
    octave = (pitch - PITCHES[letter] - alter) // 12
    return (letter, alter, octave)


def pitch_of(name):
    """The pitch of a name, also of one that no key gives."""
    return 12 * name[2] + PITCHES[name[0]] + name[1]


def own_alter(letter, key):
    """The alter that a letter has in a key of itself."""
    return alter_at(first_alike(key - 1, LETTERS_BY_FIFTHS.index(letter) - 1, 7))
