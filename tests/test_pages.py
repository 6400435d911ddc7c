import copy
import itertools
import unittest

from scattered import scattered_cases, spoilt_page
from stavemill.clefs import clefs
from stavemill.errors import BadKey, BadMeter, BadNotes, BadRoom, StaveError, TooThick, TooWide
from stavemill.events import events
from stavemill.lines import firsts, width
from stavemill.meters import bar_lengths
from stavemill.pages import page, played, remade
from stavemill.signs import heard, signed
from stavemill.sounds import chords
from stavemill.voices import voiced

FOUR = [(0, 4, 16)]
CASES = scattered_cases(120)
# Nine chords that sound together, and notes whose second of three bars is the first wide one.
THICK = [(0, 10 + number, 40 + number) for number in range(9)]
WIDE = [(0, 64, 60)] + [(64 + tick, 1, 60) for tick in range(32)] + [(128 + tick, 1, 60) for tick in range(27)]
ANYTHING = [None, True, False, "", "x", 1.0, -1, 10 ** 5000, [], (), {}, {1}, [None], [[]], [()], b"x", object(), int, len]


def note(value, heads, tied=False):
    """A note of heads as a text tells them, such as "C5 E5"; all without signs."""
    return ("note", value, tuple((head[0], int(head[1:]), None) for head in heads.split()), tied)


def rest(value):
    return ("rest", value)


def roomy(case):
    """Rooms in which a case can be written, the least among them."""
    notes, key, meter = case
    widest = max(width(bar) for bar in page(notes, key, meter, 5000)[5])
    return (widest, widest + 20, 5000)


class Page(unittest.TestCase):

    def test_no_notes(self):
        for key in (-7, 0, 7):
            for meter in (FOUR, [(0, 1, 8)], [(0, 8, 64), (1, 1, 8), (1000, 3, 4)]):
                for room in (4, 80, 5000):
                    self.assertEqual(page([], key, meter, room), (key, meter, room, [0], [0], [[]]))

    def test_one_note(self):
        self.assertEqual(page([(0, 64, 60)], 0, FOUR, 80), (0, FOUR, 80, [1], [0], [[[note(64, "C5")]]]))
        self.assertEqual(page([(8, 8, 72)], 0, FOUR, 80),
                         (0, FOUR, 80, [0], [0], [[[rest(8), note(8, "C6"), rest(48)]]]))

    def test_a_note_over_a_bar_s_end(self):
        self.assertEqual(page([(60, 9, 72)], 0, FOUR, 80),
                         (0, FOUR, 80, [0, 0], [0],
                          [[[rest(56), rest(4), note(4, "C6", True)]], [[note(4, "C6", True), note(1, "C6"), rest(56), rest(3)]]]))

    def test_a_chord_a_sign_and_a_second_voice(self):
        # In D the F is sharp of itself, so that the F natural needs a sign, and the F sharp behind it another.
        made = page([(0, 8, 66), (8, 8, 65), (16, 8, 66), (8, 24, 74), (0, 8, 69)], 2, [(0, 2, 16)], 5000)
        self.assertEqual(made, (2, [(0, 2, 16)], 5000, [0], [0], [[
            [note(8, "F5 A5"), ("note", 8, (("F", 5, 0),), False), ("note", 8, (("F", 5, 1),), False), rest(8)],
            [rest(8), note(24, "D6")]]]))

    def test_a_meter_that_changes(self):
        meter = [(0, 1, 8), (1, 3, 4), (3, 1, 16), (9, 1, 32)]
        made = page([(0, 8, 72), (8, 12, 72), (40, 4, 72)], 0, meter, 21)
        self.assertEqual(made, (0, meter, 21, [0, 0, 0, 0], [0, 3], [
            [[note(8, "C6")]], [[note(12, "C6")]], [[rest(12)]], [[rest(8), note(4, "C6"), rest(4)]]]))

    def test_what_ends_with_a_bar_needs_no_further_one(self):
        self.assertEqual([len(page([(0, end, 72)], 0, FOUR, 80)[5]) for end in (1, 63, 64, 65, 128, 129)], [1, 1, 1, 2, 2, 3])

    def test_clefs(self):
        made = page([(0, 64, 30), (64, 64, 100), (64, 64, 103), (128, 64, 60)], 0, FOUR, 80)
        self.assertEqual(made[3], [2, 0, 0])

    def test_lines(self):
        # Each bar has a width of 7.
        notes = [(64 * bar, 64, 72) for bar in range(6)]
        self.assertEqual([page(notes, 0, FOUR, room)[4] for room in (7, 14, 22, 41, 42)],
                         [[0, 1, 2, 3, 4, 5], [0, 2, 4], [0, 3], [0, 5], [0]])

    def test_all_parts_of_scattered_pages(self):
        for case in CASES:
            notes, key, meter = case
            for room in roomy(case):
                made = page(notes, key, meter, room)
                bars = made[5]
                self.assertEqual(made[:3], (key, meter, room))
                self.assertEqual(made[3], clefs(bars))
                self.assertEqual(made[4], firsts([width(bar) for bar in bars], room))
                self.assertEqual([type(part) for part in made], [int, list, int, list, list, list])
                self.assertEqual([type(made), len(made)], [tuple, 6])

    def test_bars_of_scattered_pages(self):
        for notes, key, meter in CASES:
            bars = page(notes, key, meter, 5000)[5]
            lengths = bar_lengths(meter, len(bars))
            end = max(start + length for start, length, pitch in notes)
            self.assertTrue(sum(lengths[:-1]) < end <= sum(lengths))
            rows = heard(bars, key)
            self.assertEqual(signed(rows, key), bars)
            voices = voiced(chords(notes))
            self.assertEqual([len(bar) for bar in bars], [len(voices)] * len(bars))
            for number, voice in enumerate(voices):
                self.assertEqual([bar[number] for bar in rows], events(voice, lengths))

    def test_some_scattered_pages_have_much(self):
        pages = [page(notes, key, meter, 5000) for notes, key, meter in CASES]
        self.assertEqual({len(made[5][0]) for made in pages}, set(range(1, 9)))
        self.assertGreater(max(len(made[5]) for made in pages), 50)
        self.assertEqual({clef for made in pages for clef in made[3]}, {0, 1, 2})
        self.assertEqual({key for notes, key, meter in CASES}, set(range(-7, 8)))
        self.assertGreater(len([meter for notes, key, meter in CASES if len(meter) > 1]), 30)

    def test_the_order_of_the_notes_does_not_matter(self):
        for notes, key, meter in CASES[:40]:
            self.assertEqual(page(notes[::-1], key, meter, 5000), page(notes, key, meter, 5000))

    def test_the_most_there_can_be(self):
        made = page([(17 * number, 400, 30 + number) for number in range(8)] + [(1000, 400, 90)], 0, [(0, 1, 8)], 5000)
        self.assertEqual((len(made[5]), len(made[5][0])), (175, 8))
        notes = [(1000, 400, pitch) for pitch in range(60)]
        self.assertEqual(played(page(notes, -7, [(0, 8, 1)], 5000)), notes)

    def test_nothing_is_changed_or_kept(self):
        for notes, key, meter in CASES + [([], 3, [(0, 3, 4)])]:
            kept = (list(notes), list(meter))
            told = page(notes, key, meter, 5000)
            again = copy.deepcopy(told)
            spoilt_page(told)
            self.assertEqual((notes, meter), kept)
            self.assertEqual(page(notes, key, meter, 5000), again)

    def test_a_page_has_its_meter_for_itself(self):
        meter = [(0, 4, 16)]
        told = page([], 0, meter, 80)
        meter.append((1, 3, 16))
        self.assertEqual(told[1], FOUR)


class Refusals(unittest.TestCase):

    def refused(self, kind, notes, key, meter, room):
        with self.assertRaises(kind) as caught:
            page(notes, key, meter, room)
        self.assertIs(type(caught.exception), kind)
        self.assertIsInstance(caught.exception, StaveError)
        return caught.exception

    def test_what_is_no_key(self):
        for key in ANYTHING + [8, -8, [0], "0"]:
            if key != -1:
                self.refused(BadKey, [], key, FOUR, 80)

    def test_what_is_no_meter(self):
        for meter in ANYTHING + [[(0, 4, 16)] * 21, ((0, 4, 16),)]:
            at = 0 if meter in ([None], [[]], [()]) else None
            if meter == [(0, 4, 16)] * 21:
                at = None
            self.assertEqual(self.refused(BadMeter, [], 0, meter, 80).at, at)
        self.assertEqual(self.refused(BadMeter, [], 0, [(0, 4, 16), (2, 4, 16), (2, 3, 16)], 80).at, 2)
        self.assertEqual(self.refused(BadMeter, [], 0, [(1, 4, 16)], 80).at, 0)
        self.assertEqual(self.refused(BadMeter, [], 0, [(0, 4, 16), (1, 7, 1)], 80).at, 1)

    def test_what_are_no_notes(self):
        for notes in ANYTHING + [[(0, 1, 60)] * 61, ((0, 1, 60),)]:
            if notes != []:
                at = 0 if notes in ([None], [[]], [()]) else None
                self.assertEqual(self.refused(BadNotes, notes, 0, FOUR, 80).at, at)
        self.assertEqual(self.refused(BadNotes, [(0, 8, 60), (8, 8, 60), (15, 1, 60)], 0, FOUR, 80).at, 2)
        self.assertEqual(self.refused(BadNotes, [(0, 8, 60), (8, True, 60)], 0, FOUR, 80).at, 1)

    def test_what_is_no_room(self):
        for room in ANYTHING + [0, 5001]:
            self.refused(BadRoom, [], 0, FOUR, room)

    def test_too_many_voices(self):
        self.refused(TooThick, THICK, 0, FOUR, 5000)
        self.assertEqual(len(page(THICK[:8], 0, FOUR, 5000)[5][0]), 8)

    def test_a_bar_that_is_too_wide(self):
        self.assertEqual(self.refused(TooWide, [], 0, FOUR, 3).at, 0)
        self.assertEqual(self.refused(TooWide, [(0, 64, 60)], 0, FOUR, 6).at, 0)
        self.assertEqual(self.refused(TooWide, WIDE, 0, FOUR, 90).at, 1)
        self.assertEqual([width(bar) for bar in page(WIDE, 0, FOUR, 103)[5]], [7, 103, 94])
        self.assertEqual(self.refused(TooWide, WIDE, 0, FOUR, 102).at, 1)

    def test_a_sign_that_is_too_wide(self):
        self.assertEqual(self.refused(TooWide, [(0, 64, 61)], 0, FOUR, 7).at, 0)
        self.assertEqual(page([(0, 64, 61)], 0, FOUR, 8)[4], [0])

    def test_of_several_faults_the_first_in_order(self):
        order = (BadKey, BadMeter, BadNotes, BadRoom, TooThick, TooWide)
        all_notes = [([(0, 64, 60)], []), ([(0, 0, 0)], [BadNotes]), (THICK, [TooThick])]
        all_rooms = [(5000, []), (0, [BadRoom]), (6, [TooWide])]
        tried = 0
        for keys, meters, notes, room in itertools.product([(0, []), (8, [BadKey])], [(FOUR, []), ([], [BadMeter])],
                                                           all_notes, all_rooms):
            faults = keys[1] + meters[1] + notes[1] + room[1]
            if faults:
                tried += 1
                self.refused(min(faults, key=order.index), notes[0], keys[0], meters[0], room[0])
        self.assertEqual(tried, 35)

    def test_nothing_that_is_refused_is_changed(self):
        notes = [(0, 8, 60), (4, 8, 60)]
        meter = [(0, 4, 16), (0, 4, 16)]
        self.refused(BadNotes, notes, 0, FOUR, 80)
        self.refused(BadMeter, [], 0, meter, 80)
        self.assertEqual((notes, meter), ([(0, 8, 60), (4, 8, 60)], [(0, 4, 16), (0, 4, 16)]))


class Played(unittest.TestCase):

    def test_no_notes(self):
        self.assertEqual(played(page([], 0, FOUR, 80)), [])

    def test_some_by_hand(self):
        for notes in ([(0, 1, 0)], [(1000, 400, 127)], [(0, 5, 60), (5, 5, 60)], [(3, 130, 59), (3, 130, 60), (4, 9, 12)]):
            for key in range(-7, 8):
                self.assertEqual(played(page(notes, key, FOUR, 5000)), notes)

    def test_the_notes_of_a_page_in_order(self):
        notes = [(8, 4, 60), (0, 9, 70), (8, 2, 66), (0, 8, 60), (0, 8, 50), (8, 4, 55), (0, 9, 1)]
        self.assertEqual(played(page(notes, 4, FOUR, 5000)), [
            (0, 8, 50), (0, 8, 60), (0, 9, 1), (0, 9, 70), (8, 2, 66), (8, 4, 55), (8, 4, 60)])

    def test_scattered_pages(self):
        for case in CASES:
            notes, key, meter = case
            for room in roomy(case):
                told = played(page(notes, key, meter, room))
                self.assertEqual((told, type(told), {type(played_note) for played_note in told}),
                                 (sorted(notes), list, {tuple}))

    def test_a_page_that_was_written_by_hand(self):
        bars = [
            [[note(8, "C5 E5"), note(8, "D5", True)], [rest(4), note(12, "G5", True)]],
            [[note(16, "D5", True)], [note(4, "G5"), note(4, "G5"), rest(8)]],
            [[note(1, "D5"), rest(7)], [rest(7), ("note", 1, (("G", 5, 1),), False)]],
        ]
        told = (1, [(0, 1, 16), (2, 1, 8)], 80, [0, 0, 0], [0], bars)
        kept = copy.deepcopy(told)
        self.assertEqual(played(told), [(0, 8, 60), (0, 8, 64), (4, 16, 67), (8, 25, 62), (20, 4, 67), (39, 1, 68)])
        self.assertEqual(told, kept)

    def test_the_signs_of_a_bar_and_the_key_are_heard(self):
        bars = [[[("note", 4, (("F", 5, None),), False), ("note", 4, (("F", 5, 0),), False)]],
                [[note(4, "F5"), ("note", 4, (("B", 5, -1),), False)]]]
        for key, pitches in ((0, [65, 65, 65, 70]), (1, [66, 65, 66, 70])):
            told = played((key, [(0, 1, 8)], 80, [0, 0], [0], bars))
            self.assertEqual(told, [(4 * at, 4, pitch) for at, pitch in enumerate(pitches)])

    def test_nothing_is_changed_or_kept(self):
        for notes, key, meter in CASES[:40]:
            made = page(notes, key, meter, 5000)
            kept = copy.deepcopy(made)
            told = played(made)
            told.clear()
            self.assertEqual(made, kept)
            self.assertEqual(played(made), sorted(notes))


class Remade(unittest.TestCase):

    def test_what_was_made_is_made_again(self):
        for notes, key, meter in CASES[:40]:
            made = page(notes, key, meter, 4000)
            self.assertEqual(remade(made), made)

    def test_clefs_lines_and_values_are_made_anew(self):
        bars = [[[note(4, "C6", True), note(4, "C6")], [rest(4), rest(4)]], [[rest(8)], [rest(8)]]]
        self.assertEqual(remade((0, [(0, 1, 8)], 80, [2, 1], [0, 1], bars)), (0, [(0, 1, 8)], 80, [0], [0], [[[note(8, "C6")]]]))

    def test_what_can_not_be_made_is_refused(self):
        with self.assertRaises(BadKey):
            remade((8, FOUR, 80, [], [], [[]]))
        with self.assertRaises(BadNotes):
            remade((0, FOUR, 80, [], [], [[[note(64, "C11")]]]))


if __name__ == "__main__":
    unittest.main()
