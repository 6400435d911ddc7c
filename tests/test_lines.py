import itertools
import unittest

from scattered import Dice, as_many_heads, copied, far_pitches, scattered_bars, thrown_heads
from stavemill.errors import BadRoom, StaveError, TooWide
from stavemill.lines import checked_room, firsts, line_prices, width
from stavemill.signs import signed


def thrown_widths(seed):
    """(widths, room) of few bars, such that several of them may stand on a line."""
    dice = Dice(seed)
    widths = [1 + dice.below(4 + seed % 9) for _ in range(1 + seed % 9)]
    return widths, max(widths) + dice.below(12)


CASES = [
    ([], 1), ([], 5000), ([1], 1), ([1], 5000), ([5000], 5000), ([3, 3, 3], 3), ([1, 2, 1, 2, 1], 3),
    ([1] * 9, 4), ([2] * 8, 5), ([7, 7, 7, 7, 1], 15), ([10, 10], 5000), ([2500, 2500, 2500], 5000),
] + [thrown_widths(seed) for seed in range(150)]


def ways(widths, room):
    """Every way to cut bars into lines that have room, as a tuple of how many bars are on each line."""
    told = []
    for cuts in itertools.product((False, True), repeat=max(len(widths) - 1, 0)):
        lines = [[wide] for wide in widths[:1]]
        for cut, wide in zip(cuts, widths[1:]):
            if cut:
                lines.append([])
            lines[-1].append(wide)
        if all(sum(line) <= room for line in lines):
            told.append((sum((room - sum(line)) ** 2 for line in lines[:-1]), tuple(len(line) for line in lines)))
    return told


def slow_prices(widths, room):
    """The prices, of all ways to cut the lines from each bar on."""
    return [min(ways(widths[at:], room))[0] for at in range(len(widths))]


def slow_firsts(widths, room):
    """The first bars of the lines, of all ways that cost least the one with the most bars ahead."""
    told = ways(widths, room)
    least = min(told)[0]
    many = max(lines for cost, lines in told if cost == least)
    return [sum(many[:line]) for line in range(len(many))]


class Room(unittest.TestCase):

    def test_rooms(self):
        for room in (1, 2, 4, 80, 4999, 5000):
            told = checked_room(room)
            self.assertEqual((told, type(told)), (room, int))

    def test_what_is_none(self):
        for room in (0, 5001, -1, -5000, 10 ** 30, -10 ** 30, 10 ** 5000, True, False, None, "", "80", 80.0, 1.5,
                     [], [80], (80,), {}, {80}, b"80", 80j, float("nan"), float("inf"), object(), int, len):
            with self.assertRaises(BadRoom):
                checked_room(room)


class Width(unittest.TestCase):

    def test_a_bar_without_voices(self):
        self.assertEqual(width([]), 4)

    def test_voices_without_events(self):
        self.assertEqual(width([[], []]), 4)

    def test_one_voice(self):
        self.assertEqual(width([[("rest", 64)]]), 7)
        self.assertEqual(width([[("rest", 8), ("rest", 8), ("rest", 16)]]), 13)
        self.assertEqual(width([[("note", 8, (("C", 5, None),), False)]]), 7)

    def test_several_voices_that_begin_together(self):
        self.assertEqual(width([[("rest", 64)]] * 8), 7)
        self.assertEqual(width([[("rest", 4), ("rest", 4)], [("rest", 4), ("rest", 4)]]), 10)

    def test_several_voices_that_begin_at_other_places(self):
        # Events begin at 0, 3, 4 and 6; at 0 and 4 in two voices.
        self.assertEqual(width([[("rest", 4), ("rest", 2), ("rest", 2)], [("rest", 3), ("rest", 1), ("rest", 4)]]), 16)
        self.assertEqual(width([[("rest", 8)], [("rest", 7), ("rest", 1)]]), 10)

    def test_each_sign_counts(self):
        for sign in (-2, -1, 0, 1, 2):
            self.assertEqual(width([[("note", 8, (("C", 5, sign),), False)]]), 8)
        heads = (("C", 5, None), ("C", 5, 1), ("D", 5, 0), ("D", 5, None), ("C", 6, 1))
        self.assertEqual(width([[("note", 4, heads, False), ("note", 4, heads[:2], False)], [("note", 8, heads, False)]]),
                         4 + 2 * 3 + 3 + 1 + 3)

    def test_what_is_tied_begins_too(self):
        heads = (("C", 5, 1),)
        self.assertEqual(width([[("note", 4, heads, True), ("note", 4, (("C", 5, None),), False)]]), 11)
        self.assertEqual(width([[("note", 4, (("C", 5, None),), True)]]), 7)

    def test_scattered_bars(self):
        bars = scattered_bars(7, [16, 32, 64, 24, 96] * 4, 3, thrown_heads, as_many_heads)
        bars += signed(scattered_bars(8, [16, 64, 40], 5, far_pitches), -3)
        for bar in bars:
            places = {sum(event[1] for event in row[:at]) for row in bar for at in range(len(row))}
            signs = [head for row in bar for event in row if event[0] == "note" for head in event[2] if head[2] is not None]
            told = width(bar)
            self.assertEqual((told, type(told)), (4 + 3 * len(places) + len(signs), int))

    def test_nothing_is_changed(self):
        bars = scattered_bars(9, [32, 32], 2, thrown_heads, as_many_heads)
        kept = copied(bars)
        for bar in bars:
            self.assertEqual(width(bar), width(bar))
        self.assertEqual(bars, kept)


class Prices(unittest.TestCase):

    def test_no_bars(self):
        self.assertEqual(line_prices([], 1), [])

    def test_one_bar_is_the_last_line(self):
        self.assertEqual(line_prices([3], 3), [0])
        self.assertEqual(line_prices([3], 5000), [0])

    def test_several_bars_by_hand(self):
        self.assertEqual(line_prices([3, 4, 5], 12), [0, 0, 0])
        # 3 4 | 5 leaves 4, 3 | 4 5 leaves 8; both alone cost more.
        self.assertEqual(line_prices([3, 4, 5], 11), [16, 0, 0])
        self.assertEqual(line_prices([3, 4, 5], 5), [4 + 1, 1, 0])

    def test_a_full_first_line_is_not_always_best(self):
        # 3 2 | 2 | 5 would cost 1 and 16.
        self.assertEqual(line_prices([3, 2, 2, 5], 6), [9 + 4, 4, 16, 0])

    def test_what_the_last_line_leaves_costs_nothing(self):
        self.assertEqual(line_prices([10, 1], 10), [0, 0])
        self.assertEqual(line_prices([1, 10], 10), [81, 0])

    def test_against_all_ways(self):
        for widths, room in CASES:
            with self.subTest(widths=widths, room=room):
                told = line_prices(widths, room)
                self.assertIs(type(told), list)
                self.assertEqual(told, slow_prices(widths, room))

    def test_many_bars(self):
        self.assertEqual(line_prices([4] * 175, 4), [0] * 175)
        self.assertEqual(line_prices([4] * 175, 5)[0], 174)
        self.assertEqual(line_prices([7] * 175, 5000), [0] * 175)


class Firsts(unittest.TestCase):

    def test_no_bars(self):
        self.assertEqual(firsts([], 1), [])

    def test_one_bar(self):
        self.assertEqual(firsts([3], 3), [0])
        self.assertEqual(firsts([3], 5000), [0])

    def test_several_bars_by_hand(self):
        self.assertEqual(firsts([3, 4, 5], 12), [0])
        self.assertEqual(firsts([3, 4, 5], 11), [0, 2])
        self.assertEqual(firsts([3, 4, 5], 5), [0, 1, 2])
        self.assertEqual(firsts([3, 2, 2, 5], 6), [0, 1, 3])

    def test_of_ways_that_cost_alike_the_first_line_has_the_most_bars(self):
        # 3 5 1 | 8 | 6 costs 9 and 16, 3 5 | 1 8 | 6 costs 16 and 9.
        self.assertEqual(firsts([3, 5, 1, 8, 6], 12), [0, 3, 4])
        self.assertEqual(firsts([4, 4, 6, 2, 6, 2, 6, 9], 20), [0, 4, 7])

    def test_then_the_second_line(self):
        self.assertEqual(firsts([6, 4, 7, 2, 4, 6, 3, 8], 14), [0, 2, 5, 7])
        # The same bars ahead of which one fills a line of its own.
        self.assertEqual(firsts([12, 3, 5, 1, 8, 6], 12), [0, 1, 4, 5])

    def test_against_all_ways(self):
        for widths, room in CASES:
            with self.subTest(widths=widths, room=room):
                told = firsts(widths, room)
                self.assertIs(type(told), list)
                self.assertEqual(told, slow_firsts(widths, room) if widths else [])

    def test_some_of_the_cases_have_several_cheapest_ways(self):
        several = 0
        for widths, room in CASES:
            costs = sorted(cost for cost, lines in ways(widths, room))
            several += len(costs) > 1 and costs[0] == costs[1]
        self.assertGreater(several, 5)

    def test_many_bars(self):
        self.assertEqual(firsts([4] * 175, 4), list(range(175)))
        self.assertEqual(firsts([4] * 175, 41), list(range(0, 175, 10)))
        self.assertEqual(firsts([7] * 175, 5000), [0])


class Both(unittest.TestCase):

    def test_nothing_is_changed_or_kept(self):
        for asked in (line_prices, firsts):
            for widths, room in CASES:
                kept = list(widths)
                told = asked(widths, room)
                again = list(told)
                told.clear()
                self.assertEqual(widths, kept)
                self.assertEqual(asked(widths, room), again)


class Refusals(unittest.TestCase):

    def refused(self, kind, widths, room):
        """The errors with which both functions refuse."""
        kept = list(widths)
        told = []
        for asked in (line_prices, firsts):
            with self.assertRaises(kind) as caught:
                asked(widths, room)
            self.assertIs(type(caught.exception), kind)
            self.assertIsInstance(caught.exception, StaveError)
            told.append(caught.exception)
        self.assertEqual(widths, kept)
        return told

    def test_a_bar_that_is_wider_than_the_room(self):
        for widths, room, at in [([2], 1, 0), ([5001], 5000, 0), ([3, 3, 4], 3, 2), ([3, 4, 3, 5], 3, 1),
                                 ([9, 9, 9], 8, 0), ([1] * 60 + [11, 10, 12], 10, 60), ([1, 10 ** 30], 5000, 1)]:
            for error in self.refused(TooWide, widths, room):
                self.assertEqual((error.at, type(error.at)), (at, int))

    def test_a_bar_that_just_fits(self):
        self.assertEqual((line_prices([3, 3], 3), firsts([3, 3], 3)), ([0, 0], [0, 1]))

    def test_a_room_that_is_no_number(self):
        for room in (None, True, False, "80", "", 80.0, [80], (80,), {}, object()):
            self.refused(BadRoom, [1, 2], room)
            self.refused(BadRoom, [], room)

    def test_no_number_is_refused_as_a_room(self):
        self.assertEqual((line_prices([5000, 2, 9], 5001), firsts([5000, 2, 9], 5001)), ([1, 0, 0], [0, 1]))
        self.assertEqual((line_prices([], 0), firsts([], -3)), ([], []))
        for error in self.refused(TooWide, [1, 2], 0):
            self.assertEqual(error.at, 0)


if __name__ == "__main__":
    unittest.main()
