import unittest

from stavemill.errors import BadNotes
from stavemill.sounds import checked_notes, chords

NO_LISTS = [None, True, 0, 60, 6.0, "", "note", b"", (), ((0, 1, 60),), {}, {0: (0, 1, 60)}, {(0, 1, 60)},
            object(), list, range(3)]
NO_NUMBERS = [None, True, False, 1.0, 5.0, "5", "", [], [5], (), (5,), {}, {5}, object(), int]
NO_TUPLES = [None, True, 0, 60, 1.5, "010", "", [0, 1, 60], {}, {0: 1, 1: 1, 60: 1}, {0, 1, 60}, object(), tuple]
EDGES = [(0, 1, 0), (1000, 400, 127), (0, 400, 127), (1000, 1, 0)]
MIXED = [(40, 8, 60), (0, 16, 67), (0, 8, 64), (40, 8, 48), (0, 16, 60), (8, 8, 64), (0, 8, 72), (16, 3, 60)]
SIXTY = [(note * 37 % 61 * 16, 1 + note * 7 % 16, 30 + note % 5) for note in range(60)]
LISTS = [[], [(5, 6, 7)], EDGES, MIXED, SIXTY]


def by_start_length_pitch(notes):
    """Notes in order, by the least one that is left, number by number."""
    left, row = list(notes), []
    while left:
        least = left[0]
        for note in left:
            for one, other in zip(note, least):
                if one != other:
                    least = note if one < other else least
                    break
        left.remove(least)
        row.append(least)
    return row


def common_tick(one, other):
    """Whether two notes sound at one tick, tick by tick."""
    ticks = set(range(one[0], one[0] + one[1]))
    return bool(ticks & set(range(other[0], other[0] + other[1])))


class Refusals(unittest.TestCase):

    def refused(self, notes, at):
        with self.subTest(notes=notes):
            with self.assertRaises(BadNotes) as taken:
                checked_notes(notes)
            if at is None:
                self.assertIsNone(taken.exception.at)
            else:
                self.assertEqual((taken.exception.at, type(taken.exception.at)), (at, int))

    def refused_note(self, wrong):
        """A note that is wrong wherever it stands."""
        self.refused([wrong], 0)
        self.refused([(900, 1, 60), wrong], 1)
        self.refused([(900, 1, 60), (0, 1, 60), wrong, (3, 1, 60)], 2)
        self.refused([(900, 1, 60), wrong, wrong, None, (900, 1, 60)], 1)

    def test_no_list(self):
        for thing in NO_LISTS:
            self.refused(thing, None)

    def test_more_than_sixty(self):
        self.refused([(note, 1, 60) for note in range(61)], None)
        self.refused([(note, 1, 60) for note in range(300)], None)
        self.refused([None] * 61, None)

    def test_no_tuple(self):
        for thing in NO_TUPLES:
            self.refused_note(thing)

    def test_tuples_of_another_length(self):
        for thing in [(), (5,), (5, 6), (5, 6, 7, 8), (5, 6, 7, None)]:
            self.refused_note(thing)

    def test_no_numbers(self):
        for thing in NO_NUMBERS:
            self.refused_note((thing, 6, 7))
            self.refused_note((5, thing, 7))
            self.refused_note((5, 6, thing))

    def test_numbers_beyond_their_bounds(self):
        for wrong in [(-1, 6, 7), (1001, 6, 7), (5, 0, 7), (5, 401, 7), (5, 6, -1), (5, 6, 128),
                      (5, -1, 7), (-(10 ** 30), 6, 7), (10 ** 30, 6, 7), (5, 10 ** 30, 7), (5, 6, 10 ** 30)]:
            self.refused_note(wrong)

    def test_the_same_note_twice(self):
        self.refused([(5, 6, 7), (5, 6, 7)], 1)
        self.refused([(5, 1, 7), (9, 1, 7), (5, 1, 7)], 2)

    def test_notes_of_one_pitch_that_overlap(self):
        self.refused([(10, 4, 60), (13, 4, 60)], 1)
        self.refused([(13, 4, 60), (10, 4, 60)], 1)
        self.refused([(10, 9, 60), (12, 1, 60)], 1)
        self.refused([(12, 1, 60), (10, 9, 60)], 1)
        self.refused([(10, 4, 60), (10, 5, 60)], 1)
        self.refused([(10, 5, 60), (10, 4, 60)], 1)
        self.refused([(10, 5, 60), (14, 1, 60)], 1)

    def test_every_pair_of_short_notes_of_one_pitch(self):
        short = [(start, length, 60) for start in range(6) for length in range(1, 6)]
        for one in short:
            for other in short:
                if common_tick(one, other):
                    self.refused([one, other], 1)
                else:
                    self.assertEqual(checked_notes([one, other]), by_start_length_pitch([one, other]))

    def test_overlaps_with_one_far_ahead_in_the_list(self):
        self.refused([(0, 400, 60), (0, 1, 61), (5, 1, 62), (399, 1, 60)], 3)
        self.refused([(0, 10, 60), (50, 1, 60), (60, 1, 60), (9, 2, 60), (70, 1, 60)], 3)

    def test_places_are_those_of_the_list_handed_in(self):
        self.refused([(90, 9, 60), (50, 9, 60), (10, 9, 60), (54, 1, 60)], 3)

    def test_the_first_wrong_one_is_told(self):
        self.refused([(0, 4, 60), (3, 4, 60), None], 1)
        self.refused([(0, 4, 60), None, (3, 4, 60)], 1)
        self.refused([(0, 4, 60), (8, 4, 61), (3, 4, 60), (9, 4, 61)], 2)

    def test_the_last_of_sixty(self):
        self.refused(SIXTY[:59] + [(0, 1, 128)], 59)
        self.refused(SIXTY[:59] + [SIXTY[0]], 59)

    def test_what_is_refused_stays_as_it_was(self):
        notes = [(9, 4, 60), (0, 4, 60), [5, 6, 7]]
        self.refused(notes, 2)
        self.assertEqual(notes, [(9, 4, 60), (0, 4, 60), [5, 6, 7]])


class Notes(unittest.TestCase):

    def test_notes_come_back_in_order(self):
        self.assertEqual(len(SIXTY), 60)
        for notes in LISTS:
            for handed in (list(notes), list(reversed(notes)), notes[3:] + notes[:3]):
                with self.subTest(handed=handed):
                    told = checked_notes(handed)
                    self.assertIs(type(told), list)
                    self.assertEqual(told, by_start_length_pitch(notes))
                    self.assertEqual([type(note) for note in told], [tuple] * len(notes))

    def test_some_by_hand(self):
        self.assertEqual(checked_notes(MIXED), [
            (0, 8, 64), (0, 8, 72), (0, 16, 60), (0, 16, 67), (8, 8, 64), (16, 3, 60), (40, 8, 48), (40, 8, 60)])
        self.assertEqual(checked_notes([(0, 1, 127), (0, 2, 0), (1, 1, 5), (0, 10, 3)]), [
            (0, 1, 127), (0, 2, 0), (0, 10, 3), (1, 1, 5)])

    def test_no_notes_are_notes(self):
        self.assertEqual(checked_notes([]), [])

    def test_edges_are_taken(self):
        self.assertEqual(checked_notes(EDGES), [(0, 1, 0), (0, 400, 127), (1000, 1, 0), (1000, 400, 127)])

    def test_touching_is_no_overlap(self):
        self.assertEqual(checked_notes([(10, 4, 60), (14, 4, 60)]), [(10, 4, 60), (14, 4, 60)])
        self.assertEqual(checked_notes([(14, 4, 60), (10, 4, 60)]), [(10, 4, 60), (14, 4, 60)])
        self.assertEqual(checked_notes([(14, 4, 60), (18, 1, 60), (10, 4, 60)]),
                         [(10, 4, 60), (14, 4, 60), (18, 1, 60)])

    def test_notes_of_other_pitches_may_sound_together(self):
        self.assertEqual(checked_notes([(10, 4, 61), (10, 4, 60), (11, 9, 62)]),
                         [(10, 4, 60), (10, 4, 61), (11, 9, 62)])

    def test_a_told_list_is_a_new_one(self):
        for notes in LISTS:
            kept = list(notes)
            told = checked_notes(notes)
            self.assertIsNot(told, notes)
            self.assertEqual(notes, kept)
            told.append((0, 1, 1))
            told[0] = None
            self.assertEqual(notes, kept)
            self.assertEqual(checked_notes(notes), by_start_length_pitch(kept))


class Chords(unittest.TestCase):

    def test_notes_of_one_start_and_one_length_are_one_chord(self):
        notes = [(8, 4, 60), (8, 4, 64), (8, 4, 67)]
        self.assertEqual(chords(notes), [(8, 4, (60, 64, 67))])
        self.assertEqual(chords([(8, 4, 60)]), [(8, 4, (60,))])

    def test_notes_of_different_lengths_are_several_chords(self):
        notes = [(8, 4, 64), (8, 4, 67), (8, 12, 48), (8, 12, 60), (8, 100, 36)]
        self.assertEqual(chords(notes), [(8, 4, (64, 67)), (8, 12, (48, 60)), (8, 100, (36,))])

    def test_notes_of_different_starts_are_several_chords(self):
        notes = [(0, 4, 64), (4, 4, 64), (4, 4, 70), (100, 4, 64)]
        self.assertEqual(chords(notes), [(0, 4, (64,)), (4, 4, (64, 70)), (100, 4, (64,))])

    def test_none(self):
        self.assertEqual(chords([]), [])

    def test_some_by_hand(self):
        self.assertEqual(chords(checked_notes(MIXED)), [
            (0, 8, (64, 72)), (0, 16, (60, 67)), (8, 8, (64,)), (16, 3, (60,)), (40, 8, (48, 60))])

    def test_order_does_not_hang_on_the_order_handed_in(self):
        for notes in LISTS:
            told = chords(checked_notes(notes))
            self.assertEqual(chords(list(reversed(notes))), told)
            self.assertEqual(chords(notes), told)

    def test_every_note_is_in_just_one_chord(self):
        for notes in LISTS + [[(0, 1 + pitch % 3, pitch) for pitch in range(60)]]:
            row = chords(notes)
            self.assertIs(type(row), list)
            again = [(start, length, pitch) for start, length, pitches in row for pitch in pitches]
            self.assertEqual(again, by_start_length_pitch(notes))
            spans = [(start, length) for start, length, pitches in row]
            self.assertEqual(spans, sorted(set(spans)))
            for chord in row:
                self.assertEqual((type(chord), type(chord[2])), (tuple, tuple))
                self.assertEqual(list(chord[2]), sorted(set(chord[2])))

    def test_a_told_list_is_a_new_one(self):
        for notes in LISTS:
            kept = list(notes)
            told = chords(notes)
            again = list(told)
            told.append((0, 1, (1,)))
            told[0] = None
            self.assertEqual(notes, kept)
            self.assertEqual(chords(notes), again)


if __name__ == "__main__":
    unittest.main()
