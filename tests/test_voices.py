import unittest

from stavemill.errors import TooThick
from stavemill.sounds import chords
from stavemill.voices import thickest, voiced


def stack(many, start=0, length=9):
    """So many chords that sound together, one more tick long each."""
    return [(start, length + more, (60 + more,)) for more in range(many)]


def spread(seed, many, longest):
    """The chords of notes of different pitches, scattered over some ticks."""
    return chords([(note * (seed + 31) % 97, 1 + note * note * seed % longest, note) for note in range(many)])


ROWS = [
    [],
    [(5, 3, (60,))],
    [(0, 4, (60,)), (4, 4, (60,)), (8, 4, (60,))],
    [(0, 10, (60,)), (2, 2, (62,)), (3, 1, (64,)), (4, 6, (65,)), (10, 1, (67,))],
    [(0, 4, (60, 64)), (0, 8, (67,)), (4, 8, (60,)), (8, 2, (70,)), (10, 9, (71,))],
    stack(8),
    stack(3) + stack(3, start=20),
    spread(1, 40, 11), spread(2, 60, 7), spread(3, 60, 9), spread(5, 30, 20), spread(7, 25, 13),
]


def sounding(row, tick):
    """How many chords sound at a tick, each one's ticks written out."""
    return len([chord for chord in row if tick in range(chord[0], chord[0] + chord[1])])


def slow_thickest(row):
    """The first tick at which the most sound, of all ticks one by one."""
    ticks = range(max([chord[0] + chord[1] for chord in row], default=0) + 1)
    most = max(sounding(row, tick) for tick in ticks)
    return (min(tick for tick in ticks if sounding(row, tick) == most), most)


class Thickest(unittest.TestCase):

    def test_none(self):
        self.assertEqual(thickest([]), (0, 0))

    def test_one(self):
        self.assertEqual(thickest([(0, 1, (60,))]), (0, 1))
        self.assertEqual(thickest([(5, 3, (60, 64, 67))]), (5, 1))
        self.assertEqual(thickest([(1000, 400, (60,))]), (1000, 1))

    def test_one_that_ends_where_another_starts(self):
        self.assertEqual(thickest([(5, 3, (60,)), (8, 3, (60,))]), (5, 1))
        self.assertEqual(thickest([(5, 4, (60,)), (8, 3, (61,))]), (8, 2))
        self.assertEqual(thickest([(0, 8, (60,)), (2, 6, (61,)), (8, 3, (62,)), (9, 1, (63,)), (9, 2, (64,))]), (9, 3))

    def test_the_first_of_several_such_ticks_is_told(self):
        self.assertEqual(thickest(stack(3, start=7) + stack(3, start=50)), (7, 3))
        self.assertEqual(thickest(stack(2, start=7) + stack(3, start=50) + stack(3, start=90)), (50, 3))
        self.assertEqual(thickest([(0, 9, (60,)), (3, 2, (61,)), (6, 2, (61,))]), (3, 2))

    def test_chords_count_not_notes(self):
        self.assertEqual(thickest([(0, 4, (60, 64, 67)), (9, 4, (60,)), (9, 5, (61,))]), (9, 2))

    def test_more_than_may_be_voices(self):
        self.assertEqual(thickest(stack(9, start=3)), (3, 9))
        self.assertEqual(thickest(stack(60)), (0, 60))

    def test_many_rows(self):
        for row in ROWS:
            with self.subTest(row=row):
                told = thickest(row)
                self.assertIs(type(told), tuple)
                self.assertEqual(told, slow_thickest(row))

    def test_nothing_is_changed(self):
        for row in ROWS:
            kept = list(row)
            thickest(row)
            self.assertEqual(row, kept)


class Voiced(unittest.TestCase):

    def check_least_free_voice(self, row):
        """Each chord stands behind the voices ahead of its own, in all of which one sounds at its start."""
        voices = voiced(row)
        voice_of = {chord: number for number, voice in enumerate(voices) for chord in voice}
        for place, chord in enumerate(row):
            taken = [voice_of[ahead] for ahead in row[:place] if ahead[0] + ahead[1] > chord[0]]
            least = min(number for number in range(len(row)) if number not in taken)
            self.assertEqual(voice_of[chord], least)

    def test_none(self):
        self.assertEqual(voiced([]), [])

    def test_one(self):
        self.assertEqual(voiced([(5, 3, (60, 64))]), [[(5, 3, (60, 64))]])

    def test_one_that_ends_where_another_starts_stays_in_its_voice(self):
        self.assertEqual(voiced([(5, 3, (60,)), (8, 3, (60,))]), [[(5, 3, (60,)), (8, 3, (60,))]])
        self.assertEqual(voiced([(5, 4, (60,)), (8, 3, (61,))]), [[(5, 4, (60,))], [(8, 3, (61,))]])

    def test_the_least_free_voice_is_taken(self):
        row = [(0, 4, (60,)), (0, 6, (61,)), (0, 9, (62,)), (4, 1, (63,)), (5, 3, (64,)), (6, 1, (65,)), (9, 1, (66,))]
        self.assertEqual(voiced(row), [
            [(0, 4, (60,)), (4, 1, (63,)), (5, 3, (64,)), (9, 1, (66,))],
            [(0, 6, (61,)), (6, 1, (65,))],
            [(0, 9, (62,))],
        ])

    def test_of_several_free_ones_the_least_not_the_one_just_freed(self):
        row = [(0, 2, (60,)), (0, 8, (61,)), (9, 1, (62,))]
        self.assertEqual(voiced(row), [[(0, 2, (60,)), (9, 1, (62,))], [(0, 8, (61,))]])
        row = [(0, 8, (60,)), (1, 2, (61,)), (9, 1, (62,))]
        self.assertEqual(voiced(row), [[(0, 8, (60,)), (9, 1, (62,))], [(1, 2, (61,))]])

    def test_many_rows(self):
        for row in ROWS:
            with self.subTest(row=row):
                self.assertLessEqual(slow_thickest(row)[1], 8)
                voices = voiced(row)
                self.assertEqual([type(voice) for voice in voices], [list] * len(voices))
                self.assertEqual(sorted(chord for voice in voices for chord in voice), row)
                self.assertEqual(len(voices), slow_thickest(row)[1])
                for voice in voices:
                    self.assertEqual(slow_thickest(voice)[1], 1)
                self.check_least_free_voice(row)

    def test_eight_are_taken(self):
        self.assertEqual(voiced(stack(8)), [[chord] for chord in stack(8)])
        row = stack(8) + stack(8, start=20)
        self.assertEqual(voiced(row), [[one, other] for one, other in zip(stack(8), stack(8, start=20))])

    def test_nine_are_refused(self):
        rows = [stack(9), stack(60), stack(8) + [(9 - 1, 1, (1,))], stack(8) + stack(9, start=20),
                [(start, 10 - start, (start,)) for start in range(9)]]
        for row in rows:
            with self.subTest(row=row):
                with self.assertRaises(TooThick):
                    voiced(row)

    def test_nine_that_do_not_sound_together_are_taken(self):
        row = stack(8) + [(9, 1, (1,))]
        self.assertEqual(voiced(row)[0], [(0, 9, (60,)), (9, 1, (1,))])

    def test_what_is_refused_stays_as_it_was(self):
        row = stack(9)
        with self.assertRaises(TooThick):
            voiced(row)
        self.assertEqual(row, stack(9))

    def test_told_lists_are_new_ones(self):
        for row in ROWS:
            kept = list(row)
            told = voiced(row)
            again = [list(voice) for voice in told]
            for voice in told:
                voice.append(None)
            told.append(None)
            self.assertEqual(row, kept)
            self.assertEqual(voiced(row), again)


if __name__ == "__main__":
    unittest.main()
