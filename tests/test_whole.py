import copy
import unittest

from scattered import Dice, scattered_cases, spoilt, spoilt_page
from stavemill.beams import beams
from stavemill.clefs import clef_prices, clefs
from stavemill.events import events
from stavemill.folds import fold_prices, folded, unfolded
from stavemill.lines import firsts, line_prices, width
from stavemill.meters import bar_lengths, checked_meter
from stavemill.pages import page, played
from stavemill.signs import heard, signed
from stavemill.sounds import checked_notes, chords
from stavemill.texts import read, shown
from stavemill.values import pieces
from stavemill.voices import voiced

CASES = scattered_cases(250)


def in_some_room(seed, notes, key, meter):
    """A page in a room in which it can be written, from the least one on."""
    dice = Dice(seed)
    widest = max(width(bar) for bar in page(notes, key, meter, 5000)[5])
    return page(notes, key, meter, widest + dice.below(dice.pick((1, 30, 5001 - widest))))


def emptied(told):
    """Every list of what was told emptied, also those within others or within tuples."""
    if isinstance(told, (list, tuple)):
        for thing in told:
            emptied(thing)
    if isinstance(told, list):
        told.clear()


class ThereAndBack(unittest.TestCase):

    def test_the_very_notes_in_order(self):
        for seed, (notes, key, meter) in enumerate(CASES):
            with self.subTest(notes=notes, key=key, meter=meter):
                kept = (list(notes), list(meter))
                text = shown(in_some_room(seed, notes, key, meter))
                self.assertEqual(played(read(text)), sorted(notes))
                self.assertEqual((notes, meter), kept)

    def test_the_text_again(self):
        for seed, (notes, key, meter) in enumerate(CASES):
            made = in_some_room(seed, notes, key, meter)
            told = read(shown(made))
            self.assertEqual(told, made)
            self.assertEqual(page(played(told), told[0], told[1], told[2]), made)
            self.assertEqual(shown(told), shown(made))

    def test_no_notes(self):
        for key in range(-7, 8):
            self.assertEqual(played(read(shown(page([], key, [(0, 3, 16)], 4)))), [])

    def test_the_edges(self):
        for notes in ([(0, 1, 0)], [(0, 400, 127)], [(1000, 1, 0)], [(1000, 400, 127)], [(0, 400, 60), (400, 400, 60)],
                      [(999, 1, 60), (1000, 400, 60)], [(0, 400, pitch) for pitch in range(60)],
                      [(number, 400, 2 * number) for number in range(8)], [(tick, 1, 64) for tick in range(60)]):
            for key in range(-7, 8):
                for meter in ([(0, 8, 1)], [(0, 8, 64)], [(0, 1, 8), (1, 24, 16), (1000, 1, 8)], [(0, 7, 2), (3, 5, 4), (4, 11, 1)]):
                    self.assertEqual(played(read(shown(page(notes, key, meter, 5000)))), notes)


class NothingIsKept(unittest.TestCase):

    def asked_again(self, ask, *handed):
        """What is told is as at first when it was emptied by the caller; what was handed in stays as it was."""
        kept = copy.deepcopy(handed)
        told = ask(*handed)
        first = copy.deepcopy(told)
        emptied(told)
        self.assertEqual(handed, kept)
        self.assertEqual(ask(*handed), first)

    def test_every_function_that_tells_lists(self):
        for notes, key, meter in CASES[::5] + [([], 0, [(0, 1, 8)])]:
            made = page(notes, key, meter, 5000)
            bars = made[5]
            widths = [width(bar) for bar in bars]
            self.asked_again(page, notes, key, meter, 5000)
            self.asked_again(played, made)
            self.asked_again(read, shown(made))
            self.asked_again(checked_meter, meter)
            self.asked_again(bar_lengths, meter, 9)
            self.asked_again(checked_notes, notes)
            self.asked_again(chords, notes)
            self.asked_again(voiced, chords(notes))
            self.asked_again(heard, bars, key)
            self.asked_again(signed, heard(bars, key), key)
            self.asked_again(clef_prices, bars)
            self.asked_again(clefs, bars)
            self.asked_again(line_prices, widths, 5000)
            self.asked_again(firsts, widths, 5000)
            self.asked_again(fold_prices, widths)
            self.asked_again(folded, widths)
            self.asked_again(unfolded, folded(widths))
            for voice in voiced(chords(notes)):
                self.asked_again(events, voice, bar_lengths(meter, len(bars)))
            for row in bars[0]:
                self.asked_again(beams, row, 16)
        for length in range(513):
            self.asked_again(pieces, length)

    def test_a_page_does_not_share_its_lists(self):
        notes, key, meter = CASES[3]
        one = page(notes, key, meter, 5000)
        other = page(notes, key, meter, 5000)
        third = read(shown(one))
        kept = copy.deepcopy(one)
        spoilt_page(one)
        self.assertEqual((other, third), (kept, kept))

    def test_what_was_handed_in_may_be_changed_behind(self):
        for notes, key, meter in CASES[:30]:
            made = page(notes, key, meter, 5000)
            kept = copy.deepcopy(made)
            bars = heard(made[5], key)
            written = signed(bars, key)
            spoilt(bars)
            self.assertEqual((written, made), (kept[5], kept))

    def test_a_refusal_leaves_nothing_behind(self):
        notes, key, meter = CASES[3]
        made = page(notes, key, meter, 5000)
        for wrong in ((notes + notes, key, meter, 5000), (notes, 9, meter, 5000), (notes, key, [], 5000), (notes, key, meter, 1)):
            with self.assertRaises(ValueError):
                page(*wrong)
            self.assertEqual(page(notes, key, meter, 5000), made)
        with self.assertRaises(ValueError):
            read(shown(made) + "bar 0\n")
        self.assertEqual(read(shown(made)), made)


class Folds(unittest.TestCase):

    def test_the_bars_of_a_page_are_folded_and_told_again(self):
        for notes, key, meter in CASES[::3]:
            bars = page(notes, key, meter, 5000)[5]
            folds = folded(bars)
            self.assertEqual(unfolded(folds), bars)
            self.assertEqual(sum(2 + len(body) for times, body in folds), fold_prices(bars)[0])


if __name__ == "__main__":
    unittest.main()
