import unittest

from scattered import as_many_heads, copied, far_pitches, scattered_bars, spoilt, thrown_heads
from stavemill.names import name_of, own_alter, pitch_of
from stavemill.signs import heard, signed

KEYS = range(-7, 8)
SHAPES = [([8], 1), ([64], 1), ([64, 64], 2), ([48, 8, 20], 3), ([16, 16, 16, 16, 16], 1), ([24, 24, 24], 8), ([512], 2)]
PITCHED = [scattered_bars(seed, lengths, voices) for seed, (lengths, voices) in enumerate(SHAPES)]
PITCHED += [scattered_bars(seed, lengths, voices, far_pitches) for seed, (lengths, voices) in enumerate(SHAPES)]
HEADED = [scattered_bars(seed, lengths, voices, thrown_heads, as_many_heads)
          for seed, (lengths, voices) in enumerate(SHAPES)]


def note(pitches, value=8, tied=False):
    """A note of pitches or heads."""
    return ("note", value, pitches, tied)


def looked_at(bars):
    """(bar, voice, number, goes on) of every note, sorted as the document tells, with its place found by adding up."""
    row = []
    for at, bar in enumerate(bars):
        for voice, events in enumerate(bar):
            for number, event in enumerate(events):
                ahead = ([one for other in bars[:at] for one in other[voice]] + events[:number])[-1:]
                place = sum(one[1] for one in events[:number])
                if event[0] == "note":
                    goes_on = bool(ahead) and ahead[0][0] == "note" and ahead[0][3]
                    row.append((at, place, voice, number, goes_on))
    return [(at, voice, number, goes_on) for at, place, voice, number, goes_on in sorted(row)]


def slow_signed(bars, key):
    """Bars with heads: each note is held against the last one of its letter and octave in the bar, signed or not."""
    told = copied(bars)
    for at in range(len(bars)):
        names = []
        for _, voice, number, goes_on in [one for one in looked_at(bars) if one[0] == at]:
            heads = []
            for letter, alter, octave in [name_of(pitch, key) for pitch in bars[at][voice][number][2]]:
                ahead = [own_alter(letter, key)] + [one[1] for one in names if (one[0], one[2]) == (letter, octave)]
                heads.append((letter, octave, None if goes_on or ahead[-1] == alter else alter))
                if not goes_on:
                    names.append((letter, alter, octave))
            kind, value, _, tied = bars[at][voice][number]
            told[at][voice][number] = (kind, value, tuple(heads), tied)
    return told


def slow_heard(bars, key):
    """Bars with pitches: each head looks back for the last sign of its letter and octave in the bar."""
    told = copied(bars)
    signs = []
    for at, voice, number, goes_on in looked_at(bars):
        pitches = []
        kind, value, heads, tied = bars[at][voice][number]
        for place, (letter, octave, sign) in enumerate(heads):
            if goes_on:
                ahead = [one for bar in told[:at] for one in bar[voice]] + told[at][voice][:number]
                pitches.append(ahead[-1][2][place])
                continue
            if sign is not None:
                signs.append((at, letter, octave, sign))
            written = [one[3] for one in signs if one[:3] == (at, letter, octave)]
            pitches.append(pitch_of((letter, written[-1] if written else own_alter(letter, key), octave)))
        told[at][voice][number] = (kind, value, tuple(pitches), tied)
    return told


class Both(unittest.TestCase):

    def check(self, key, pitched, headed):
        """That the one is written as the other, and read back."""
        self.assertEqual(signed(pitched, key), headed)
        self.assertEqual(heard(headed, key), pitched)

    def test_no_bars_and_no_voices(self):
        self.check(0, [], [])
        self.check(3, [[]], [[]])
        self.check(3, [[], [], []], [[], [], []])

    def test_rests_stay_as_they_are(self):
        bars = [[[("rest", 8)], [("rest", 4), ("rest", 4)]], [[("rest", 8)], [("rest", 8)]]]
        self.check(-2, bars, bars)

    def test_no_sign_where_the_key_has_it_so(self):
        self.check(0, [[[note((60,))]]], [[[note((("C", 5, None),))]]])
        self.check(2, [[[note((61,))]]], [[[note((("C", 5, None),))]]])
        self.check(-2, [[[note((63, 70))]]], [[[note((("E", 5, None), ("B", 5, None)))]]])

    def test_a_sign_where_the_key_has_it_not_so(self):
        self.check(0, [[[note((61,))]]], [[[note((("C", 5, 1),))]]])
        self.check(2, [[[note((60,))]]], [[[note((("C", 5, 0),))]]])
        self.check(-7, [[[note((62,))]]], [[[note((("E", 5, -2),))]]])
        self.check(7, [[[note((62,))]]], [[[note((("C", 5, 2),))]]])
        self.check(7, [[[note((0,))]]], [[[note((("B", -1, None),))]]])

    def test_a_sign_counts_to_the_bar_s_end(self):
        self.check(0, [[[note((61,)), note((61,)), note((60,)), note((60,)), note((61,))]]],
                   [[[note((("C", 5, 1),)), note((("C", 5, None),)), note((("C", 5, 0),)), note((("C", 5, None),)),
                      note((("C", 5, 1),))]]])

    def test_a_sign_counts_behind_rests_and_other_notes(self):
        self.check(0, [[[note((61,)), ("rest", 4), note((62, 64)), note((61,))]]],
                   [[[note((("C", 5, 1),)), ("rest", 4), note((("D", 5, None), ("E", 5, None))), note((("C", 5, None),))]]])

    def test_again_in_the_next_bar(self):
        self.check(0, [[[note((61,))]], [[note((61,))]], [[note((60,))]]],
                   [[[note((("C", 5, 1),))]], [[note((("C", 5, 1),))]], [[note((("C", 5, None),))]]])

    def test_each_octave_by_itself(self):
        self.check(0, [[[note((61,)), note((73,)), note((72,)), note((60,))]]],
                   [[[note((("C", 5, 1),)), note((("C", 6, 1),)), note((("C", 6, 0),)), note((("C", 5, 0),))]]])

    def test_the_name_s_octave_counts(self):
        # In key 6 the pitch 60 is a B sharp of octave 4, and 59 a B of it.
        self.check(6, [[[note((60,)), note((59,)), note((72,))]]],
                   [[[note((("B", 4, 1),)), note((("B", 4, 0),)), note((("B", 5, 1),))]]])

    def test_in_a_chord_from_the_least_pitch(self):
        self.check(0, [[[note((60, 61)), note((60,)), note((61,))]]],
                   [[[note((("C", 5, None), ("C", 5, 1))), note((("C", 5, 0),)), note((("C", 5, 1),))]]])
        self.check(2, [[[note((60, 61)), note((61,))]]],
                   [[[note((("C", 5, 0), ("C", 5, 1))), note((("C", 5, None),))]]])

    def test_for_all_voices_from_its_place_on(self):
        self.check(0, [[[note((60,), 4), note((61,), 4), note((60,), 8)],
                        [note((60,), 2), note((60,), 2), note((61,), 2), note((60,), 4), note((60,), 6)]]],
                   [[[note((("C", 5, None),), 4), note((("C", 5, 1),), 4), note((("C", 5, None),), 8)],
                     [note((("C", 5, None),), 2), note((("C", 5, None),), 2), note((("C", 5, None),), 2),
                      note((("C", 5, 0),), 4), note((("C", 5, None),), 6)]]])

    def test_of_one_place_by_voices(self):
        self.check(0, [[[note((60,))], [note((61,))], [note((60,))]]],
                   [[[note((("C", 5, None),))], [note((("C", 5, 1),))], [note((("C", 5, 0),))]]])
        self.check(0, [[[("rest", 8)], [note((61,))], [note((61,))]]],
                   [[[("rest", 8)], [note((("C", 5, 1),))], [note((("C", 5, None),))]]])

    def test_a_later_voice_s_earlier_place_comes_first(self):
        self.check(0, [[[("rest", 4), note((61,), 4)], [note((61,), 8)]]],
                   [[[("rest", 4), note((("C", 5, None),), 4)], [note((("C", 5, 1),), 8)]]])

    def test_what_goes_on_from_a_tie_in_the_bar_has_no_sign(self):
        self.check(0, [[[note((61,), 4, True), note((61,), 4), note((60,))]]],
                   [[[note((("C", 5, 1),), 4, True), note((("C", 5, None),), 4), note((("C", 5, 0),))]]])

    def test_what_goes_on_from_the_bar_ahead_has_no_sign_and_changes_nothing(self):
        self.check(0, [[[note((61,), 8, True)]], [[note((61,), 4), note((61,), 4), note((61,), 4)]]],
                   [[[note((("C", 5, 1),), 8, True)]],
                    [[note((("C", 5, None),), 4), note((("C", 5, 1),), 4), note((("C", 5, None),), 4)]]])
        self.check(0, [[[note((61,), 8, True)]], [[note((61,), 4), note((60,), 4)]]],
                   [[[note((("C", 5, 1),), 8, True)]], [[note((("C", 5, None),), 4), note((("C", 5, None),), 4)]]])

    def test_on_over_several_bars(self):
        self.check(-1, [[[note((61, 66), 8, True)]], [[note((61, 66), 8, True)]], [[note((61, 66), 8)]], [[note((61,))]]],
                   [[[note((("D", 5, -1), ("F", 5, 1)), 8, True)]],
                    [[note((("D", 5, None), ("F", 5, None)), 8, True)]],
                    [[note((("D", 5, None), ("F", 5, None)), 8)]],
                    [[note((("D", 5, -1),))]]])

    def test_another_voice_s_sign_beneath_a_tie_changes_it_not(self):
        self.check(0, [[[note((61,), 4, True), note((61,), 4)], [("rest", 2), note((60,), 6)]]],
                   [[[note((("C", 5, 1),), 4, True), note((("C", 5, None),), 4)], [("rest", 2), note((("C", 5, 0),), 6)]]])

    def test_a_tie_is_its_own_voice_s(self):
        self.check(0, [[[note((61,), 8, True)], [note((62,), 8)]], [[note((61,))], [note((61,))]]],
                   [[[note((("C", 5, 1),), 8, True)], [note((("D", 5, None),), 8)]],
                    [[note((("C", 5, None),))], [note((("C", 5, 1),))]]])

    def test_scattered_bars_come_back(self):
        for bars in PITCHED:
            for key in KEYS:
                with self.subTest(bars=bars, key=key):
                    self.assertEqual(heard(signed(bars, key), key), bars)


class Signed(unittest.TestCase):

    def test_scattered_bars(self):
        for bars in PITCHED:
            for key in KEYS:
                with self.subTest(bars=bars, key=key):
                    self.assertEqual(signed(bars, key), slow_signed(bars, key))

    def test_kinds(self):
        for bars in PITCHED:
            for event in [event for bar in signed(bars, 1) for row in bar for event in row if event[0] == "note"]:
                self.assertEqual([type(part) for part in event], [str, int, tuple, bool])
                for head in event[2]:
                    self.assertEqual([type(part) for part in head[:2]], [str, int])
                    self.assertIn(type(head[2]), (int, type(None)))
                    self.assertEqual(len(head), 3)

    def test_nothing_is_changed_or_kept(self):
        for bars in PITCHED:
            kept = copied(bars)
            told = signed(bars, -3)
            again = copied(told)
            spoilt(told)
            self.assertEqual(bars, kept)
            self.assertEqual(signed(bars, -3), again)


class Heard(unittest.TestCase):

    def test_every_head(self):
        for key in KEYS:
            for letter in "CDEFGAB":
                for octave in range(-2, 12):
                    for sign in (None, -2, -1, 0, 1, 2):
                        alter = own_alter(letter, key) if sign is None else sign
                        self.assertEqual(heard([[[note(((letter, octave, sign),))]]], key),
                                         [[[note((pitch_of((letter, alter, octave)),))]]])

    def test_a_sign_that_is_not_needed(self):
        self.assertEqual(heard([[[note((("C", 5, 1),)), note((("C", 5, 1),)), note((("C", 5, None),))]]], 2),
                         [[[note((61,)), note((61,)), note((61,))]]])

    def test_a_chord_is_read_as_it_stands_in_the_tuple(self):
        self.assertEqual(heard([[[note((("C", 5, 1), ("C", 5, None))), note((("C", 5, 0), ("B", 4, 2), ("C", 5, -1)))]]], 0),
                         [[[note((61, 61)), note((60, 61, 59))]]])
        self.assertEqual(heard([[[note((("C", 5, None), ("C", 5, 1)))]]], 0), [[[note((60, 61))]]])

    def test_heads_that_go_on_are_those_ahead_whatever_is_written(self):
        bars = [[[note((("C", 5, 1), ("E", 5, None)), 4, True), note((("G", 2, -2), ("C", 5, 0)), 4, True)]],
                [[note((("A", 9, None), ("C", 5, -1)), 4), note((("C", 5, None), ("G", 2, None)), 4)]]]
        self.assertEqual(heard(bars, 0), [[[note((61, 64), 4, True), note((61, 64), 4, True)]],
                                          [[note((61, 64), 4), note((60, 31), 4)]]])

    def test_a_sign_at_a_head_that_goes_on_changes_nothing(self):
        bars = [[[note((("C", 5, 1),), 4, True), note((("C", 5, 0),), 4), note((("C", 5, None),), 4)],
                 [("rest", 6), note((("C", 5, None),), 6)]]]
        self.assertEqual(heard(bars, 0), [[[note((61,), 4, True), note((61,), 4), note((61,), 4)],
                                           [("rest", 6), note((61,), 6)]]])

    def test_scattered_heads(self):
        for bars in HEADED:
            for key in KEYS:
                with self.subTest(bars=bars, key=key):
                    self.assertEqual(heard(bars, key), slow_heard(bars, key))

    def test_nothing_is_changed_or_kept(self):
        for bars in HEADED:
            kept = copied(bars)
            told = heard(bars, 4)
            again = copied(told)
            spoilt(told)
            self.assertEqual(bars, kept)
            self.assertEqual(heard(bars, 4), again)


if __name__ == "__main__":
    unittest.main()
