import unittest

from stavemill.events import events
from stavemill.meters import bar_lengths, bars_needed
from stavemill.sounds import chords
from stavemill.values import can_write, pieces
from stavemill.voices import voiced

METERS = [[(0, 4, 16)], [(0, 1, 8)], [(0, 5, 2), (1, 7, 8), (3, 8, 64)], [(0, 3, 16), (2, 11, 1), (4, 24, 16)]]


def scattered(seed, many, longest):
    """Voices of notes of different pitches, scattered over some ticks."""
    notes = [(note * (seed + 31) % 197, 1 + note * note * seed % longest, note) for note in range(many)]
    return voiced(chords(notes))


VOICES = [
    [],
    [(0, 1, (60,))],
    [(63, 2, (60, 64))],
    [(0, 400, (60,))],
    [(700, 5, (60,)), (1000, 400, (61, 62))],
    [(0, 64, (60,)), (64, 64, (60,)), (128, 5, (60,))],
    [(5, 11, (60,)), (16, 5, (62,)), (40, 111, (64,)), (152, 1, (65,))],
] + scattered(1, 20, 40) + scattered(3, 30, 33) + scattered(5, 20, 50)


def slow_events(voice, lengths):
    """The events, worked out from what sounds at each tick by itself."""
    owner = {tick: place for place, chord in enumerate(voice) for tick in range(chord[0], chord[0] + chord[1])}
    bars, begin = [], 0
    for length in lengths:
        spans = []
        for tick in range(begin, begin + length):
            if spans and spans[-1][0] == owner.get(tick):
                spans[-1][1] += 1
            else:
                spans.append([owner.get(tick), 1])
        bars.append([(place, value) for place, ticks in spans for value in pieces(ticks)])
        begin += length
    left = {place: sum(1 for bar in bars for event in bar if event[0] == place) for place in range(len(voice))}
    told = []
    for bar in bars:
        told.append([])
        for place, value in bar:
            if place is None:
                told[-1].append(("rest", value))
            else:
                left[place] -= 1
                told[-1].append(("note", value, voice[place][2], left[place] > 0))
    return told


def walked(bars):
    """The chords that events tell, walked from tick 0 on, with tied events joined."""
    row, tick, open_one = [], 0, None
    for event in [event for bar in bars for event in bar]:
        if event[0] == "note":
            if open_one is None:
                open_one = (tick, 0, event[2])
            open_one = (open_one[0], open_one[1] + event[1], event[2])
            if not event[3]:
                row.append(open_one)
                open_one = None
        tick += event[1]
    return row


def cases():
    """Each voice in each meter, in as many bars as it needs and in some more."""
    for voice in VOICES:
        end = max([chord[0] + chord[1] for chord in voice], default=0)
        for meter in METERS:
            for more in (0, 3):
                yield voice, bar_lengths(meter, bars_needed(meter, end) + more)


class ByHand(unittest.TestCase):

    def test_a_chord_that_fills_a_bar(self):
        self.assertEqual(events([(0, 64, (60, 64))], [64]), [[("note", 64, (60, 64), False)]])

    def test_no_chords(self):
        self.assertEqual(events([], [64]), [[("rest", 64)]])
        self.assertEqual(events([], [64, 20, 8]), [[("rest", 64)], [("rest", 16), ("rest", 4)], [("rest", 8)]])
        self.assertEqual(events([], [512]), [[("rest", 112)] * 4 + [("rest", 64)]])

    def test_no_bars(self):
        self.assertEqual(events([], []), [])

    def test_pieces_within_a_bar_are_tied_but_the_last(self):
        self.assertEqual(events([(0, 5, (60,))], [8]), [
            [("note", 4, (60,), True), ("note", 1, (60,), False), ("rest", 3)]])
        self.assertEqual(events([(0, 111, (60,))], [111]), [
            [("note", 96, (60,), True), ("note", 14, (60,), True), ("note", 1, (60,), False)]])

    def test_what_sounds_is_cut_at_the_bar_s_end(self):
        self.assertEqual(events([(4, 8, (60,))], [8, 8]), [
            [("rest", 4), ("note", 4, (60,), True)], [("note", 4, (60,), False), ("rest", 4)]])

    def test_what_ends_with_the_bar_is_not_tied(self):
        self.assertEqual(events([(4, 4, (60,)), (8, 8, (60,))], [8, 8]), [
            [("rest", 4), ("note", 4, (60,), False)], [("note", 8, (60,), False)]])

    def test_parts_are_cut_bar_by_bar_not_all_at_once(self):
        self.assertEqual(events([(3, 21, (60,))], [8, 8, 8]), [
            [("rest", 3), ("note", 4, (60,), True), ("note", 1, (60,), True)],
            [("note", 8, (60,), True)],
            [("note", 8, (60,), False)]])

    def test_over_bars_of_different_lengths(self):
        self.assertEqual(events([(7, 20, (50, 60))], [8, 11, 13]), [
            [("rest", 7), ("note", 1, (50, 60), True)],
            [("note", 8, (50, 60), True), ("note", 3, (50, 60), True)],
            [("note", 8, (50, 60), False), ("rest", 4), ("rest", 1)]])

    def test_rests_ahead_between_and_behind(self):
        self.assertEqual(events([(5, 1, (60,)), (11, 2, (62,))], [18]), [
            [("rest", 4), ("rest", 1), ("note", 1, (60,), False), ("rest", 4), ("rest", 1),
             ("note", 2, (62,), False), ("rest", 4), ("rest", 1)]])

    def test_no_rest_between_chords_that_touch(self):
        self.assertEqual(events([(0, 4, (60,)), (4, 4, (60,))], [8]), [
            [("note", 4, (60,), False), ("note", 4, (60,), False)]])

    def test_rests_over_whole_bars(self):
        self.assertEqual(events([(0, 3, (60,)), (36, 2, (62,))], [8, 10, 9, 12, 8]), [
            [("note", 3, (60,), False), ("rest", 4), ("rest", 1)],
            [("rest", 8), ("rest", 2)],
            [("rest", 8), ("rest", 1)],
            [("rest", 8), ("rest", 1), ("note", 2, (62,), False), ("rest", 1)],
            [("rest", 8)]])

    def test_rests_ahead_over_whole_bars(self):
        self.assertEqual(events([(20, 4, (60,))], [8, 8, 8]), [
            [("rest", 8)], [("rest", 8)], [("rest", 4), ("note", 4, (60,), False)]])


class Everywhere(unittest.TestCase):

    def test_as_told_from_tick_to_tick(self):
        for voice, lengths in cases():
            with self.subTest(voice=voice, lengths=lengths):
                self.assertEqual(events(voice, lengths), slow_events(voice, lengths))

    def test_each_bar_is_filled_by_values_that_can_be_written(self):
        for voice, lengths in cases():
            bars = events(voice, lengths)
            self.assertEqual([sum(event[1] for event in bar) for bar in bars], lengths)
            for event in [event for bar in bars for event in bar]:
                self.assertTrue(can_write(event[1]))

    def test_the_chords_are_told_back(self):
        for voice, lengths in cases():
            with self.subTest(voice=voice, lengths=lengths):
                self.assertEqual(walked(events(voice, lengths)), voice)

    def test_kinds(self):
        for voice, lengths in cases():
            bars = events(voice, lengths)
            self.assertEqual([type(bar) for bar in [bars] + bars], [list] * (len(lengths) + 1))
            for event in [event for bar in bars for event in bar]:
                kinds = [type(part) for part in event]
                self.assertIs(type(event), tuple)
                self.assertEqual(kinds, [str, int, tuple, bool] if event[0] == "note" else [str, int])

    def test_nothing_is_changed_or_kept(self):
        for voice, lengths in cases():
            kept = (list(voice), list(lengths))
            told = events(voice, lengths)
            again = [list(bar) for bar in told]
            for bar in told:
                bar.append(None)
            told.append(None)
            self.assertEqual((voice, lengths), kept)
            self.assertEqual(events(voice, lengths), again)


if __name__ == "__main__":
    unittest.main()
