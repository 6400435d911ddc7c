import unittest

from stavemill.errors import BadKey
from stavemill.names import checked_key, fifth, name_of, own_alter, pitch_of

KEYS = range(-7, 8)
PITCHES = range(128)
LETTERS = "CDEFGAB"
NO_KEYS = [-8, 8, -9, 9, 12, -12, 10 ** 30, -(10 ** 30), 10 ** 6000, -(10 ** 6000), True, False, None, "", "0", "C", "1",
           b"0", 0.0, 1.0, -7.0, 0.5, float("nan"), float("inf"), 1j, [], [0], (), (0,), {}, {0: 0}, {0}, frozenset(),
           range(1), object(), int, len]


def counted(fifths):
    """(letter, alter) of so many fifths from C, counted fifth by fifth from the F at -1."""
    letter, alter = 0, 0
    for _ in range(-1, fifths):
        letter += 1
        if letter == 7:
            letter, alter = 0, alter + 1
    for _ in range(fifths, -1):
        letter -= 1
        if letter == -1:
            letter, alter = 6, alter - 1
    return "FCGDAEB"[letter], alter


def slow_pitch(letter, alter, octave):
    """The pitch of a name, by the document's row of numbers."""
    return 12 * octave + [0, 2, 4, 5, 7, 9, 11][LETTERS.find(letter)] + alter


def slow_name(pitch, key):
    """The one name of all fifths and octaves that sounds so."""
    row = []
    for fifths in range(key - 4, key + 8):
        letter, alter = counted(fifths)
        row.extend((letter, alter, octave) for octave in range(-6, 20) if slow_pitch(letter, alter, octave) == pitch)
    only, = row
    return only


class Keys(unittest.TestCase):

    def test_each_key_comes_back(self):
        for key in KEYS:
            told = checked_key(key)
            self.assertEqual((told, type(told)), (key, int))

    def test_what_is_no_key(self):
        for thing in NO_KEYS:
            # No subTest: it would write out the numbers of many figures, which Python refuses to.
            with self.assertRaises(BadKey):
                checked_key(thing)

    def test_what_is_refused_stays_as_it_was(self):
        row = [0]
        with self.assertRaises(BadKey):
            checked_key(row)
        self.assertEqual(row, [0])


class Fifths(unittest.TestCase):

    def test_every_pitch_in_every_key(self):
        for key in KEYS:
            for pitch in PITCHES:
                with self.subTest(key=key, pitch=pitch):
                    told = fifth(pitch, key)
                    self.assertIs(type(told), int)
                    self.assertEqual([told], [q for q in range(key - 4, key + 8) if 7 * q % 12 == pitch % 12])

    def test_some_by_hand(self):
        told = [fifth(pitch, 0) for pitch in range(60, 72)]
        self.assertEqual(told, [0, 7, 2, -3, 4, -1, 6, 1, -4, 3, -2, 5])
        self.assertEqual([fifth(60, key) for key in KEYS], [0, 0, 0, 0, 0, 0, 0, 0, 0, 0, 0, 0, 12, 12, 12])
        self.assertEqual([fifth(68, key) for key in KEYS], [-4] * 8 + [8] * 7)
        self.assertEqual([fifth(61, key) for key in KEYS], [-5] * 7 + [7] * 8)

    def test_somewhat_beyond(self):
        for pitch in list(range(-30, 0)) + list(range(128, 160)):
            for key in KEYS:
                self.assertIn(fifth(pitch, key), range(key - 4, key + 8))
                self.assertEqual((7 * fifth(pitch, key) - pitch) % 12, 0)


class Names(unittest.TestCase):

    def test_every_pitch_in_every_key(self):
        for key in KEYS:
            for pitch in PITCHES:
                with self.subTest(key=key, pitch=pitch):
                    told = name_of(pitch, key)
                    self.assertEqual((type(told), [type(part) for part in told]), (tuple, [str, int, int]))
                    self.assertEqual(told, slow_name(pitch, key))
                    self.assertIn(told[1], range(-2, 3))
                    self.assertEqual(pitch_of(told), pitch)

    def test_all_twelve_by_hand(self):
        self.assertEqual([name_of(pitch, 0) for pitch in range(60, 72)], [
            ("C", 0, 5), ("C", 1, 5), ("D", 0, 5), ("E", -1, 5), ("E", 0, 5), ("F", 0, 5),
            ("F", 1, 5), ("G", 0, 5), ("A", -1, 5), ("A", 0, 5), ("B", -1, 5), ("B", 0, 5)])
        self.assertEqual([name_of(pitch, 7) for pitch in range(60, 72)], [
            ("B", 1, 4), ("C", 1, 5), ("C", 2, 5), ("D", 1, 5), ("E", 0, 5), ("E", 1, 5),
            ("F", 1, 5), ("F", 2, 5), ("G", 1, 5), ("A", 0, 5), ("A", 1, 5), ("B", 0, 5)])
        self.assertEqual([name_of(pitch, -7) for pitch in range(60, 72)], [
            ("C", 0, 5), ("D", -1, 5), ("E", -2, 5), ("E", -1, 5), ("F", -1, 5), ("F", 0, 5),
            ("G", -1, 5), ("A", -2, 5), ("A", -1, 5), ("B", -2, 5), ("B", -1, 5), ("C", -1, 6)])

    def test_octaves_at_their_edges(self):
        self.assertEqual(name_of(0, 0), ("C", 0, 0))
        self.assertEqual(name_of(0, 7), ("B", 1, -1))
        self.assertEqual(name_of(11, -7), ("C", -1, 1))
        self.assertEqual(name_of(11, 0), ("B", 0, 0))
        self.assertEqual(name_of(12, 5), ("B", 1, 0))
        self.assertEqual(name_of(127, 0), ("G", 0, 10))
        self.assertEqual(name_of(127, 7), ("F", 2, 10))

    def test_somewhat_beyond(self):
        for pitch in list(range(-30, 0)) + list(range(128, 160)):
            for key in KEYS:
                self.assertEqual(name_of(pitch, key), slow_name(pitch, key))


class Pitches(unittest.TestCase):

    def test_every_name(self):
        for letter in LETTERS:
            for alter in range(-2, 3):
                for octave in range(-3, 12):
                    with self.subTest(letter=letter, alter=alter, octave=octave):
                        told = pitch_of((letter, alter, octave))
                        self.assertEqual((told, type(told)), (slow_pitch(letter, alter, octave), int))

    def test_some_by_hand(self):
        names = [("C", 0, 0), ("C", -1, 0), ("C", -2, 0), ("B", 1, -1), ("B", 2, -1), ("B", 0, -1), ("C", -2, -1),
                 ("A", -1, -2), ("F", 1, 5), ("G", 0, 10), ("E", 2, 4), ("D", -2, 1)]
        self.assertEqual([pitch_of(name) for name in names], [0, -1, -2, 0, 1, -1, -14, -16, 66, 127, 54, 12])


class OwnAlters(unittest.TestCase):

    def test_every_letter_in_every_key(self):
        for key in KEYS:
            own = dict(counted(fifths) for fifths in range(key - 1, key + 6))
            self.assertEqual(sorted(own), sorted(LETTERS))
            for letter in LETTERS:
                with self.subTest(key=key, letter=letter):
                    told = own_alter(letter, key)
                    self.assertEqual((told, type(told)), (own[letter], int))

    def test_some_by_hand(self):
        rows = {0: [0, 0, 0, 0, 0, 0, 0], 7: [1] * 7, -7: [-1] * 7, 1: [0, 0, 0, 1, 0, 0, 0], 2: [1, 0, 0, 1, 0, 0, 0],
                -1: [0, 0, 0, 0, 0, 0, -1], -3: [0, 0, -1, 0, 0, -1, -1], 6: [1, 1, 1, 1, 1, 1, 0]}
        for key, row in rows.items():
            self.assertEqual([own_alter(letter, key) for letter in LETTERS], row)


if __name__ == "__main__":
    unittest.main()
