import unittest

from scattered import VALUES, as_many_heads, scattered_bars, thrown_heads
from stavemill.beams import beams

ROWS = [row for seed in range(12) for bar in scattered_bars(seed, [64, 48, 33, 128], 2) for row in bar]
ROWS += [row for bar in scattered_bars(50, [64, 64, 64], 3, thrown_heads, as_many_heads) for row in bar]
BEATS = (1, 2, 3, 5, 8, 12, 16, 24, 32, 64, 100, 600)


def notes(*values):
    """Notes of these values, one behind the other."""
    return [("note", value, (60,), False) for value in values]


def rest(value):
    """A row of one rest."""
    return [("rest", value)]


def may_be_joined(row, beat, first, behind):
    """Whether all events from first to ahead of behind are short notes that begin in one beat."""
    begun = {sum(event[1] for event in row[:at]) // beat for at in range(first, behind)}
    return len(begun) == 1 and all(event[0] == "note" and event[1] < 16 for event in row[first:behind])


def slow_beams(row, beat):
    """Every span of two or more that may be joined and is within no longer one."""
    many = len(row)
    spans = [(first, behind) for first in range(many) for behind in range(first + 2, many + 1)
             if may_be_joined(row, beat, first, behind)]
    return [(first, behind) for first, behind in spans
            if (first - 1, behind) not in spans and (first, behind + 1) not in spans]


class Beams(unittest.TestCase):

    def test_no_events_and_no_notes(self):
        self.assertEqual(beams([], 16), [])
        self.assertEqual(beams(rest(8), 16), [])
        self.assertEqual(beams(rest(8) + rest(8) + rest(1), 16), [])

    def test_one_short_note_is_no_beam(self):
        self.assertEqual(beams(notes(8), 16), [])
        self.assertEqual(beams(rest(8) + notes(8), 16), [])
        self.assertEqual(beams(notes(8) + rest(8), 16), [])

    def test_within_one_beat(self):
        self.assertEqual(beams(notes(8, 8), 16), [(0, 2)])
        self.assertEqual(beams(notes(4, 4, 4, 4), 16), [(0, 4)])
        self.assertEqual(beams(notes(*[1] * 16), 16), [(0, 16)])

    def test_over_several_beats(self):
        self.assertEqual(beams(notes(8, 8, 8, 8), 16), [(0, 2), (2, 4)])
        self.assertEqual(beams(notes(4, 4, 4, 4, 8, 8, 8), 16), [(0, 4), (4, 6)])
        self.assertEqual(beams(notes(8, 8, 8, 8, 8, 8), 24), [(0, 3), (3, 6)])

    def test_the_beat_in_which_a_note_begins_counts_not_that_in_which_it_ends(self):
        self.assertEqual(beams(notes(12, 12, 8), 16), [(0, 2)])
        self.assertEqual(beams(notes(14, 14, 4), 16), [(0, 2)])
        self.assertEqual(beams(notes(14, 3, 14, 1), 16), [(0, 2), (2, 4)])
        self.assertEqual(beams(notes(14, 1, 14, 3), 16), [(0, 3)])
        self.assertEqual(beams(notes(4, 14, 6, 8), 16), [(0, 2), (2, 4)])

    def test_a_single_note_between_two_beats_of_beams(self):
        self.assertEqual(beams(notes(8, 8, 8, 12, 4, 8, 4), 16), [(0, 2), (2, 4), (4, 6)])
        self.assertEqual(beams(notes(8, 12, 12, 8, 8), 16), [(0, 2), (3, 5)])

    def test_a_rest_between(self):
        self.assertEqual(beams(notes(4) + rest(4) + notes(4, 4), 16), [(2, 4)])
        self.assertEqual(beams(notes(2, 2) + rest(4) + notes(4, 4), 16), [(0, 2), (3, 5)])
        self.assertEqual(beams(notes(4) + rest(4) + notes(8), 16), [])
        self.assertEqual(beams(notes(8, 8) + rest(16) + notes(8, 8), 16), [(0, 2), (3, 5)])

    def test_a_longer_note_between(self):
        self.assertEqual(beams(notes(8, 8, 16, 8, 8), 64), [(0, 2), (3, 5)])
        self.assertEqual(beams(notes(8, 16, 8), 64), [])
        self.assertEqual(beams(notes(16, 16), 64), [])

    def test_rests_ahead_count_for_the_place(self):
        self.assertEqual(beams(rest(8) + notes(8, 8, 8), 16), [(2, 4)])
        self.assertEqual(beams(notes(16, 24, 8, 8, 8), 16), [(3, 5)])

    def test_which_values_are_short(self):
        for value in VALUES:
            self.assertEqual(beams(notes(value, value), 600), [(0, 2)] if value < 16 else [])
            self.assertEqual(beams(notes(1, value), 600), [(0, 2)] if value < 16 else [])
            self.assertEqual(beams(notes(value, 1), 600), [(0, 2)] if value < 16 else [])

    def test_a_beat_of_1_tick(self):
        self.assertEqual(beams(notes(1, 1, 1, 1), 1), [])
        self.assertEqual(beams(notes(1, 1, 1, 1), 2), [(0, 2), (2, 4)])

    def test_a_beat_of_more_than_the_bar(self):
        self.assertEqual(beams(notes(*[8] * 8), 64), [(0, 8)])
        self.assertEqual(beams(notes(*[8] * 8), 65), [(0, 8)])
        self.assertEqual(beams(notes(*[8] * 8), 10 ** 9), [(0, 8)])

    def test_ties_pitches_and_heads_do_not_matter(self):
        row = [("note", 8, (60,), True), ("note", 4, (60,), False), ("note", 4, (61, 62), False), ("rest", 16)]
        self.assertEqual(beams(row, 16), [(0, 3)])
        headed = [("note", 8, (("C", 5, None),), True), ("note", 4, (("C", 5, None),), False),
                  ("note", 4, (("C", 5, 1), ("D", 5, None)), False), ("rest", 16)]
        self.assertEqual(beams(headed, 16), [(0, 3)])

    def test_scattered_rows(self):
        for row in ROWS:
            for beat in BEATS:
                with self.subTest(row=row, beat=beat):
                    told = beams(row, beat)
                    self.assertEqual(told, slow_beams(row, beat))
                    self.assertIs(type(told), list)
                    self.assertEqual([type(beam) for beam in told], [tuple] * len(told))

    def test_nothing_is_changed_or_kept(self):
        for row in ROWS:
            kept = list(row)
            told = beams(row, 16)
            again = list(told)
            told.append(None)
            self.assertEqual(row, kept)
            self.assertEqual(beams(row, 16), again)


if __name__ == "__main__":
    unittest.main()
