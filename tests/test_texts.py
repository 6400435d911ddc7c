import copy
import unittest

from scattered import Dice, scattered_cases, spoilt_page
from stavemill.errors import BadText
from stavemill.lines import width
from stavemill.pages import page, played
from stavemill.texts import read, shown

CASES = scattered_cases(100)


def rows(*told):
    """The text of these rows."""
    return "".join(row + "\n" for row in told)


EMPTY = rows("key 0", "meter 0:4x16", "room 80", "line", "bar 0")
ONE = rows("key 0", "meter 0:4x16", "room 80", "line", "bar 1", ": C5/64")
# Two bars, two lines, two voices, rests, ties within a bar and over its end, chords, signs, a key below nought.
MANY = rows("key -3", "meter 0:4x16 2:3x16 900:1x8", "room 49", "line",
            "bar 0", ": C5+E5n/16~ C5+E5/4 r32 r12", ": r4 r1 A6/56~ A6/3~", "bar 0", ": r32 D5b/32~", ": A6/8~ A6/3 r48 r4 r1",
            "line", "bar 0", ": D5/12 r32 r4", ": r48")
MANY_NOTES = [(0, 20, 60), (0, 20, 64), (5, 70, 80), (96, 44, 61)]
# The five signs; in the lowest and in the highest key each letter has one of itself, which is not written.
SIGNS = [
    (-7, [(0, 8, 57), (8, 8, 58), (16, 8, 60)], ": B4bb/8 B4b/8 C5n/8"),
    (0, [(0, 8, 70), (8, 8, 71), (16, 8, 66)], ": B5b/8 B5n/8 F5s/8 r8"),
    (7, [(0, 8, 62), (8, 8, 61), (16, 8, 60), (24, 8, 0)], ": C5ss/8 C5s/8 B4/8 B-1/8"),
]


def edited(seed, text):
    """A text that has been changed a little."""
    dice = Dice(seed)
    at = dice.below(len(text))
    behind = at + dice.pick((0, 0, 1, 1, 1, 2))
    added = dice.pick(("", "", " ", "\n", "+", "/", "~", "-", ":", "x", "r", "b", "n", "s", "line\n", "0", "1", "2", "3", "4",
                       "8", "9", "A", "C", "H", ".", "\t", "C5/8 ", "r8 ", "/8~"))
    return text[:at] + added + text[behind:]


def rows_edited(seed, text):
    """A text of which a row has been left out, doubled or put elsewhere."""
    dice = Dice(seed)
    told = text.splitlines(True)
    row = told.pop(dice.below(len(told)))
    for _ in range(dice.below(3)):
        told.insert(dice.below(len(told) + 1), row)
    return "".join(told)


class Shown(unittest.TestCase):

    def test_a_page_of_no_notes(self):
        self.assertEqual(shown(page([], 0, [(0, 4, 16)], 80)), EMPTY)
        self.assertEqual(shown(page([], -7, [(0, 1, 8), (1000, 24, 16)], 5000)),
                         rows("key -7", "meter 0:1x8 1000:24x16", "room 5000", "line", "bar 0"))

    def test_one_note(self):
        self.assertEqual(shown(page([(0, 64, 60)], 0, [(0, 4, 16)], 80)), ONE)

    def test_many_things(self):
        self.assertEqual(shown(page(MANY_NOTES, -3, [(0, 4, 16), (2, 3, 16), (900, 1, 8)], 49)), MANY)

    def test_signs(self):
        for key, notes, row in SIGNS:
            text = shown(page(notes, key, [(0, len(row.split()[1:]), 8)], 80))
            self.assertEqual(text.splitlines()[-1], row)

    def test_all_values(self):
        for value in (1, 2, 3, 4, 6, 7, 8, 12, 14, 16, 24, 28, 32, 48, 56, 64, 96, 112):
            text = shown(page([(112, value, 72)], 0, [(0, 7, 16)], 80))
            words = text.splitlines()
            self.assertEqual(words[5], ": r112")
            self.assertEqual(words[7].split()[:2], [":", f"C6/{value}"])

    def test_keys(self):
        for key in range(-7, 8):
            self.assertEqual(shown(page([], key, [(0, 1, 8)], 9)).splitlines()[0], f"key {key}")

    def test_each_line_begins_with_a_row(self):
        notes = [(64 * bar, 64, 72) for bar in range(5)]
        told = shown(page(notes, 0, [(0, 4, 16)], 14)).splitlines()
        bar = ["bar 0", ": C6/64"]
        self.assertEqual(told[3:], ["line"] + bar * 2 + ["line"] + bar * 2 + ["line"] + bar)

    def test_voices_without_events(self):
        self.assertEqual(shown((0, [(0, 1, 8)], 80, [2], [0], [[[], []]])),
                         rows("key 0", "meter 0:1x8", "room 80", "line", "bar 2", ":", ":"))

    def test_nothing_is_changed(self):
        for notes, key, meter in CASES[:30]:
            made = page(notes, key, meter, 5000)
            kept = copy.deepcopy(made)
            self.assertEqual(shown(made), shown(made))
            self.assertEqual(made, kept)


class Read(unittest.TestCase):

    def test_a_page_of_no_notes(self):
        self.assertEqual(read(EMPTY), (0, [(0, 4, 16)], 80, [0], [0], [[]]))

    def test_one_note(self):
        self.assertEqual(read(ONE), (0, [(0, 4, 16)], 80, [1], [0], [[[("note", 64, (("C", 5, None),), False)]]]))

    def test_many_things(self):
        told = read(MANY)
        self.assertEqual(told, page(MANY_NOTES, -3, [(0, 4, 16), (2, 3, 16), (900, 1, 8)], 49))
        self.assertEqual(told[:5], (-3, [(0, 4, 16), (2, 3, 16), (900, 1, 8)], 49, [0, 0, 0], [0, 2]))
        self.assertEqual(told[5][0][0][:2], [("note", 16, (("C", 5, None), ("E", 5, 0)), True),
                                             ("note", 4, (("C", 5, None), ("E", 5, None)), False)])
        self.assertEqual(played(told), sorted(MANY_NOTES))

    def test_signs(self):
        for key, notes, row in SIGNS:
            made = page(notes, key, [(0, len(row.split()[1:]), 8)], 80)
            self.assertEqual(read(shown(made)), made)

    def test_every_pitch_in_every_key(self):
        for key in range(-7, 8):
            for low in (0, 34, 68):
                made = page([(4 * at, 4, low + at) for at in range(60)], key, [(0, 16, 4)], 500)
                self.assertEqual(read(shown(made)), made)
                made = page([(0, 8, low + at) for at in range(60)], key, [(0, 1, 8)], 500)
                self.assertEqual(read(shown(made)), made)

    def test_what_is_written_is_read_to_the_same_page(self):
        for notes, key, meter in CASES:
            widest = max(width(bar) for bar in page(notes, key, meter, 5000)[5])
            for room in (widest, min(widest * 3, 5000), 5000):
                made = page(notes, key, meter, room)
                text = shown(made)
                told = read(text)
                self.assertEqual(told, made)
                self.assertEqual([type(part) for part in told], [int, list, int, list, list, list])
                self.assertEqual(shown(told), text)

    def test_nothing_is_kept(self):
        for text in (EMPTY, ONE, MANY):
            told = read(text)
            again = copy.deepcopy(told)
            spoilt_page(told)
            self.assertEqual(read(text), again)


class Refusals(unittest.TestCase):

    def refused(self, text):
        with self.assertRaises(BadText, msg=text) as caught:
            read(text)
        self.assertIs(type(caught.exception), BadText)

    def changed(self, text, old, new):
        """Refused is a text in which a part that it has just once is another."""
        self.assertEqual(text.count(old), 1, (text, old))
        self.refused(text.replace(old, new))

    def test_what_is_no_text(self):
        for thing in (None, True, False, 0, 5, 1.5, b"", EMPTY.encode(), [], [EMPTY], list(EMPTY), (EMPTY,), {}, {EMPTY},
                      object(), str, read, read(EMPTY)):
            self.refused(thing)

    def test_texts_of_nothing(self):
        for text in ("", "\n", "\n\n\n", "\n" * 9, " ", "key", "key 0", "key 0\n", "line\n", "bar 0\n", ":\n", "\0", "x" * 999):
            self.refused(text)

    def test_line_ends(self):
        for text in (EMPTY, ONE, MANY):
            self.refused(text[:-1])
            self.refused(text + "\n")
            self.refused("\n" + text)
            for end in ("\r\n", "\r", "\v", "\x85", "\u2028", " \n", "\n ", "\n\n", ""):
                self.refused(text.replace("\n", end))
            for part in text.splitlines(True)[:-1]:
                self.refused(text.replace(part, part + "\n", 1))

    def test_every_beginning_and_every_end_of_a_text(self):
        for text in (EMPTY, ONE, MANY):
            for at in range(1, len(text)):
                self.refused(text[at:])
                # Up to its first bar's own row a text may tell a page of no notes.
                if not text[:at].endswith("line\nbar 0\n"):
                    self.refused(text[:at])

    def test_rows_left_out(self):
        for text in (EMPTY, ONE):
            told = text.splitlines(True)
            for at in range(len(told)):
                if not told[at].startswith(":"):
                    self.refused("".join(told[:at] + told[at + 1:]))
        told = MANY.splitlines(True)
        for at in range(len(told)):
            self.refused("".join(told[:at] + told[at + 1:]))

    def test_rows_doubled(self):
        for text in (EMPTY, ONE, MANY):
            told = text.splitlines(True)
            for at in range(len(told)):
                self.refused("".join(told[:at + 1] + told[at:]))

    def test_rows_in_another_order(self):
        for text in (EMPTY, ONE, MANY):
            told = text.splitlines(True)
            for at in range(len(told)):
                for other in range(at):
                    if told[at] != told[other]:
                        swapped = list(told)
                        swapped[at] = told[other]
                        swapped[other] = told[at]
                        self.refused("".join(swapped))
            self.refused("".join(reversed(told)))

    def test_words_of_rows(self):
        for old, new in [("key", "Key"), ("key", "kay"), ("key", ""), ("key -3", "-3"), ("key ", "key"), ("key -3", "key"),
                         ("key -3", "key  -3"), ("key -3", "key -3 "), ("key -3", "key -3 0"), ("key -3", " key -3"),
                         ("key -3", "key\t-3"), ("meter", "metre"), ("meter 0", "meter  0"), ("16 2", "16  2"),
                         ("16 2", "16, 2"), ("room", "rooms"), ("room 49", "room 49 "), ("room 49", "room"),
                         ("C5+E5n", "C5 + E5n"), ("/16", " /16"), ("32 r12", "32  r12"), ("r12\n", "r12 \n"), ("r12\n", "r12 ~\n")]:
            self.changed(MANY, old, new)
        for old, new in [("line", "lines"), ("line", "Line"), ("line", "line 0"), ("line", " line"), ("line", ""), ("line", "bar 0"),
                         ("bar 1", "bar"), ("bar 1", "bar1"), ("bar 1", "bars 1"), ("bar 1", "bar 1 1"), ("bar 1", "bar  1"),
                         ("bar 1", "1"), (": C", ":C"), (": C", "C"), (": C", ":  C"), (": C", " : C"), (": C", ":: C"), (": C", "; C")]:
            self.changed(ONE, old, new)

    def test_numbers(self):
        for old, new in [("key -3", "key -03"), ("key -3", "key - 3"), ("key -3", "key --3"), ("0:4", "00:4"), ("0:4", "-0:4"),
                         ("0:4", ":4"), (":4x", ":04x"), (":4x", ":+4x"), (":4x", ":4X"), (":4x", ":4xx"), (":4x", "4x"),
                         ("room 49", "room 049"), ("room 49", "room +49"), ("room 49", "room 4_9"), ("room 49", "room 49.0"),
                         ("room 49", "room 0x31"), ("room 49", "room \u0664\u0669"), ("room 49", "room \u00b2"), ("room 49", "room \ud800"),
                         ("room 49", "room 49\0"),
                         ("room 49", "room 49e0"), ("room 49", "room " + "9" * 9999), ("room 49", "room -49"), ("room 49", "room x"),
                         ("E5n", "E05n"), ("E5n", "E-5n"), ("E5n", "En"), ("E5n", "E5.n"), ("r12", "r012"), ("r12", "r-12"),
                         ("r12", "r"), ("A6/56", "A6/056"), ("A6/56", "A6/"), ("A6/56", "A6/-56"), ("A6/56", "A6/" + "1" * 5000),
                         ("A6/56", "A" + "6" * 5000 + "/56")]:
            self.changed(MANY, old, new)
        self.changed(EMPTY, "key 0", "key -0")
        self.changed(EMPTY, "key 0", "key 00")
        self.changed(EMPTY, "key 0", "key +0")

    def test_what_is_no_key_meter_or_room(self):
        for key in ("8", "-8", "True", "None", "C", "0.0", "100"):
            self.changed(EMPTY, "key 0", "key " + key)
        for meter in ("", " ", " 0", " 1:4x16", " 0:0x16", " 0:25x16", " 0:4x3", " 0:4x128", " 0:7x1", " 0:9x64", " 0:4x16 0:4x16",
                      " 0:4x16 2:4x16 1:4x16", " 0:4x16 1001:4x16", " 0:4", " 0x4:16", " -1:4x16", " 0:4x16x", " 0:4x16:",
                      "".join(f" {bar}:4x16" for bar in range(21))):
            self.changed(EMPTY, "meter 0:4x16", "meter" + meter)
        for room in ("0", "-1", "5001", "3", "None", "80.0"):
            self.changed(EMPTY, "room 80", "room " + room)

    def test_as_many_tuples_as_a_meter_may_have(self):
        meter = "".join(f" {bar}:4x16" for bar in range(20))
        self.assertEqual(read(EMPTY.replace(" 0:4x16", meter))[1], [(bar, 4, 16) for bar in range(20)])

    def test_another_clef(self):
        for text, own in ((EMPTY, "0"), (ONE, "1")):
            for clef in ("0", "1", "2", "3", "-1", "", "x"):
                if clef != own:
                    self.changed(text, "bar " + own, "bar " + clef)
        for clef in ("1", "2"):
            self.refused(MANY.replace("bar 0", "bar " + clef))
            self.refused(MANY.replace("bar 0", "bar " + clef, 1))

    def test_lines_cut_otherwise(self):
        bar = "bar 0\n: C6/64\n"
        head = "key 0\nmeter 0:4x16\nroom 14\n"
        self.assertEqual(read(head + "line\n" + bar * 2 + "line\n" + bar)[4], [0, 2])
        for told in ("line\n" + bar + "line\n" + bar * 2, ("line\n" + bar) * 3, "line\n" + bar * 3, bar * 3,
                     "line\n" + bar * 2 + "line\n" + bar + "line\n", "line\nline\n" + bar * 2 + "line\n" + bar,
                     bar * 2 + "line\n" + bar):
            self.refused(head + told)
        # What fits on one line stands on one, and what does not can't.
        self.refused(head.replace("14", "21") + "line\n" + bar * 2 + "line\n" + bar)
        self.refused(head.replace("14", "6") + ("line\n" + bar) * 3)

    def test_values_that_do_not_fill_a_bar(self):
        for row in (": C5/32", ": C5/96", ": C5/64 r64", ": C5/32 r16", ": r64 C5/64", ":", ": C5/48 r8", ": C5/112"):
            self.changed(ONE, ": C5/64", row)

    def test_values_cut_otherwise(self):
        for row in (": C5/32~ C5/32", ": C5/32 r16 r16", ": r16 r16 C5/32", ": C5/40 r24", ": C5/0 r64", ": C5/48~ C5/16",
                    ": C5/4~ C5/16 r32 r12", ": C5/24~ C5/24 r16", ": C5/5 r56 r3", ": C5/24 r8 r32", ": r64"):
            self.changed(ONE, ": C5/64", row)

    def test_ties(self):
        for row in (": C5/64~", ": C5/32~ r32", ": C5/32~ D5/32", ": C5/16~ C5+E5/4 r32 r12", ": C5+E5/16~ C5/4 r32 r12",
                    ": C5/16~ E5/4 r32 r12", ": C5/16~~ C5/4 r32 r12", ": C5/16~ C5n/4 r32 r12", ": C5/16~ C5s/4 r32 r12",
                    ": r64~", ": r32~ C5/32", ": ~C5/64", ": C5~/64", ": C5/~64"):
            self.changed(ONE, ": C5/64", row)
        # Without its tie the head of the next bar tells a note of its own, and the key's own pitch.
        self.assertEqual(played(read(MANY.replace("D5b/32~", "D5b/32")))[-2:], [(96, 32, 61), (128, 12, 62)])
        self.changed(MANY, "D5/12", "D5b/12")
        self.changed(MANY, "D5/12", "E5/12")

    def test_signs_that_are_not_needed(self):
        for row in (": C5n/64", ": C5s/32 C5s/32", ": C5n/32 C5s/32", ": C5b/64", ": C5ss/64", ": C5bb/64", ": G5s/64",
                    ": C5sss/64", ": C5sb/64", ": C5nn/64", ": C5bn/64", ": Cs5/64", ": C5#/64", ": C5+C5n/64"):
            self.changed(ONE, ": C5/64", row)
        self.changed(EMPTY.replace("key 0", "key -2"), "bar 0\n", "bar 0\n: B5b/64\n")
        self.assertEqual(read(rows("key -2", "meter 0:4x16", "room 80", "line", "bar 0", ": B5/64"))[5],
                         [[[("note", 64, (("B", 5, None),), False)]]])

    def test_signs_that_are_missing(self):
        # Without its sign a head tells the pitch that another one has at the same time.
        whole = rows("key 0", "meter 0:4x16", "room 80", "line", "bar 0", ": C6+C6s/32 C6n+C6s/32")
        self.assertEqual(len(played(read(whole))), 4)
        self.changed(whole, "C6+C6s/32 ", "C6+C6/32 ")
        self.changed(whole, "C6n+C6s/32", "C6+C6s/32")
        self.changed(whole, "C6n+C6s/32", "C6n+C6/32")

    def test_heads(self):
        for row in (": E5+C5/64", ": C5+C5/64", ": C5++E5/64", ": +C5/64", ": C5+/64", ": /64", ": c5/64", ": H5/64", ": 5/64",
                    ": C/64", ": C5", ": C5:64", ": C5//64", ": C5/64/64", ": C5,E5/64", ": R64", ": C5/r64", ": C55/64", ": C11/64",
                    ": C-1/64", ": A10/64", ": C5 5/64"):
            self.changed(ONE, ": C5/64", row)

    def test_voices(self):
        for told in (": C5/64\n: r64", ": r64\n: C5/64", ": C5/64\n:", ":\n: C5/64", ": C5/64\n: E5/64", ": C5/32 r32\n: r32 E5/32",
                     "\n".join(f": C5/{value} r{64 - value}" for value in (32, 16)), "\n".join([": C5/64"] * 9)):
            self.changed(ONE, ": C5/64", told)
        self.changed(ONE, "line\n", "line\n: C5/64\n")
        self.changed(ONE, "room 80\n", "room 80\n: C5/64\n")

    def test_bars(self):
        for told in (EMPTY + "bar 0\n", ONE + "bar 1\n", ONE + "bar 1\n: r64\n", ONE + "bar 1\n: r64\n" * 1200,
                     ONE.replace("line\n", "line\nbar 1\n"), ONE.replace("line\n", "line\nbar 1\n: r64\n") + "bar 1\n: r64\n"):
            self.refused(told)

    def test_what_looks_like_a_page_but_can_not_be_made(self):
        # Nine voices, 61 notes, a start behind 1000, a length above 400, two notes of one pitch that overlap.
        short = "".join(f": C{number}/4 r4\n" for number in range(8))
        for text in [
            rows("key 0", "meter 0:1x8", "room 80", "line", "bar 0") + short + ": D6/6 r2\n",
            rows("key 0", "meter 0:1x8", "room 4000", "line") + "bar 0\n: C6/8\n" * 61,
            rows("key 0", "meter 0:1x8", "room 5000", "line") + "bar 0\n: r8\n" * 126 + "bar 0\n: C6/8\n",
            rows("key 0", "meter 0:1x64", "room 5000", "line") + "bar 0\n: C6/64~\n" * 6 + "bar 0\n: C6/32 r32\n",
            rows("key 0", "meter 0:1x8", "room 80", "line", "bar 0", ": C6/4 r4", ": C6/6 r2"),
        ]:
            self.refused(text)
        self.assertEqual(len(played(read(rows("key 0", "meter 0:1x8", "room 4000", "line") + "bar 0\n: C6/8\n" * 60))), 60)
        self.assertEqual(played(read(rows("key 0", "meter 0:1x8", "room 5000", "line") + "bar 0\n: r8\n" * 125
                                     + "bar 0\n: C6/8\n")), [(1000, 8, 72)])
        self.assertEqual(played(read(rows("key 0", "meter 0:1x64", "room 5000", "line") + "bar 0\n: C6/64~\n" * 6
                                     + "bar 0\n: C6/16 r48\n")), [(0, 400, 72)])

    def test_edited_texts_are_refused_or_tell_what_they_say(self):
        texts = [EMPTY, ONE, MANY] + [shown(page(notes, key, meter, 300)) for notes, key, meter in CASES[:60] if len(notes) < 12]
        taken = 0
        for seed in range(3000):
            base = texts[seed % len(texts)]
            text = edited(seed, base) if seed % 3 else rows_edited(seed, base)
            try:
                told = read(text)
            except BadText:
                continue
            taken += 1
            self.assertEqual(shown(told), text)
            self.assertEqual(page(played(told), told[0], told[1], told[2]), told)
        self.assertTrue(20 < taken < 2000, taken)


if __name__ == "__main__":
    unittest.main()
