import itertools
import unittest

from scattered import Dice, as_many_heads, copied, far_pitches, scattered_bars, spoilt, thrown_heads
from stavemill.clefs import clef_prices, clefs, small_lines
from stavemill.signs import signed

LOWEST = [37, 31, 25]
LETTERS = "CDEFGAB"


def at_steps(steps):
    """A bar of one voice with one chord of heads at these steps, or a rest."""
    if not steps:
        return [[("rest", 8)]]
    return [[("note", 8, tuple((LETTERS[step % 7], step // 7, None) for step in steps), False)]]


def thrown_steps(seed, many):
    """Bars of few heads, near the clefs' lines."""
    dice = Dice(seed)
    return [at_steps([20 + dice.below(32) for _ in range(dice.below(4))]) for _ in range(many)]


BARS = [
    [],
    [[]],
    [[], [], []],
    [[[("rest", 8)]], [[("rest", 4), ("rest", 4)]]],
    [at_steps([41])],
    [at_steps([51]), at_steps([20]), at_steps([51])],
    [at_steps([23, 55])],
    [at_steps([25]), [[("rest", 8)]], at_steps([49]), [[("rest", 8)]], at_steps([25])],
    scattered_bars(2, [32, 32, 32, 32], 2, thrown_heads, as_many_heads),
    signed(scattered_bars(3, [48, 16, 24], 3, far_pitches), 2),
    signed(scattered_bars(5, [24, 24, 24, 24, 24], 1, far_pitches), -4),
] + [thrown_steps(seed, 1 + seed % 7) for seed in range(60)]


def slow_lines(step, clef):
    """The small lines of a head, drawn one after the other at every second step from the five lines on."""
    lines = [LOWEST[clef] + 2 * line for line in range(5)]
    above = [line for line in range(lines[4] + 2, step + 1, 2)]
    below = [line for line in range(lines[0] - 2, step - 1, -2)]
    return len(above) + len(below)


def lines_of(bar, clef):
    """The small lines of all heads of a bar."""
    heads = [head for row in bar for event in row if event[0] == "note" for head in event[2]]
    return sum(slow_lines(7 * octave + LETTERS.find(letter), clef) for letter, octave, sign in heads)


def rows_and_costs(bars):
    """Every row of clefs, in order, with what it costs."""
    lines = [[lines_of(bar, clef) for clef in (0, 1, 2)] for bar in bars]
    told = {}
    for row in itertools.product((0, 1, 2), repeat=len(bars)):
        changes = sum(1 for one, other in zip(row, row[1:]) if one != other)
        told[row] = sum(lines[at][clef] for at, clef in enumerate(row)) + 4 * changes
    return told


def slow_prices(bars):
    """The prices, of all rows of clefs from each bar on."""
    told = []
    for at in range(len(bars)):
        costs = rows_and_costs(bars[at:])
        told.append([min(costs[row] for row in costs if row[0] == clef) for clef in (0, 1, 2)])
    return told


class SmallLines(unittest.TestCase):

    def test_on_the_lines_and_between_them(self):
        for clef in (0, 1, 2):
            for step in range(LOWEST[clef], LOWEST[clef] + 9):
                self.assertEqual(small_lines(step, clef), 0)

    def test_above_the_highest(self):
        for clef in (0, 1, 2):
            self.assertEqual([small_lines(LOWEST[clef] + 8 + more, clef) for more in range(1, 9)],
                             [0, 1, 1, 2, 2, 3, 3, 4])

    def test_below_the_lowest(self):
        for clef in (0, 1, 2):
            self.assertEqual([small_lines(LOWEST[clef] - more, clef) for more in range(1, 9)],
                             [0, 1, 1, 2, 2, 3, 3, 4])

    def test_every_step(self):
        for clef in (0, 1, 2):
            for step in range(-30, 110):
                with self.subTest(clef=clef, step=step):
                    told = small_lines(step, clef)
                    self.assertEqual((told, type(told)), (slow_lines(step, clef), int))

    def test_some_by_hand(self):
        self.assertEqual([small_lines(35, clef) for clef in (0, 1, 2)], [1, 0, 1])
        self.assertEqual([small_lines(0, clef) for clef in (0, 1, 2)], [18, 15, 12])
        self.assertEqual([small_lines(74, clef) for clef in (0, 1, 2)], [14, 17, 20])
        self.assertEqual([small_lines(-7, clef) for clef in (0, 1, 2)], [22, 19, 16])


class Prices(unittest.TestCase):

    def test_no_bars(self):
        self.assertEqual(clef_prices([]), [])

    def test_bars_without_heads(self):
        self.assertEqual(clef_prices([[]]), [[0, 0, 0]])
        self.assertEqual(clef_prices([[[("rest", 8)]], [[("rest", 8)], [("rest", 8)]]]), [[0, 0, 0], [0, 0, 0]])

    def test_one_bar(self):
        self.assertEqual(clef_prices([at_steps([35])]), [[1, 0, 1]])
        self.assertEqual(clef_prices([at_steps([0, 74])]), [[32, 32, 32]])

    def test_a_change_costs_4_at_the_bar_behind(self):
        self.assertEqual(clef_prices([at_steps([]), at_steps([51])]), [[3, 6, 7], [3, 6, 9]])
        self.assertEqual(clef_prices([at_steps([51]), at_steps([])]), [[3, 6, 9], [0, 0, 0]])
        self.assertEqual(clef_prices([at_steps([37, 37, 37, 37]), at_steps([25, 25])]),
                         [[4, 4, 8], [12, 6, 0]])

    def test_every_head_counts_also_one_that_goes_on_from_a_tie(self):
        heads = (("C", 7, None), ("C", 7, 1))
        bar = [[("note", 4, heads, True), ("note", 4, heads, False)], [("rest", 4), ("note", 4, heads[:1], False)]]
        self.assertEqual(clef_prices([bar]), [[5 * 2, 5 * 5, 5 * 8]])

    def test_letters_and_octaves(self):
        for octave in range(-1, 11):
            for place, letter in enumerate(LETTERS):
                for sign in (None, -2, 0, 2):
                    told = clef_prices([[[("note", 8, ((letter, octave, sign),), False)]]])
                    self.assertEqual(told, [[slow_lines(7 * octave + place, clef) for clef in (0, 1, 2)]])

    def test_against_all_rows_of_clefs(self):
        for bars in BARS:
            with self.subTest(bars=bars):
                told = clef_prices(bars)
                self.assertEqual(told, slow_prices(bars))
                self.assertEqual([type(prices) for prices in [told] + told], [list] * (len(bars) + 1))

    def test_nothing_is_changed_or_kept(self):
        for bars in BARS:
            kept = copied(bars)
            told = clef_prices(bars)
            again = [list(prices) for prices in told]
            for prices in told:
                prices[0] = None
                prices.append(None)
            told.append(None)
            self.assertEqual(bars, kept)
            self.assertEqual(clef_prices(bars), again)

    def test_each_bar_has_a_list_of_its_own(self):
        told = clef_prices([[], [], []])
        told[0][0] = 5
        self.assertEqual(told[1:], [[0, 0, 0], [0, 0, 0]])


class Clefs(unittest.TestCase):

    def test_no_bars(self):
        self.assertEqual(clefs([]), [])

    def test_bars_without_heads(self):
        self.assertEqual(clefs([[]]), [0])
        self.assertEqual(clefs([[[("rest", 8)]]] * 3), [0, 0, 0])

    def test_one_bar(self):
        self.assertEqual([clefs([at_steps([step])]) for step in (25, 29, 30, 35, 36, 50)], [[2], [2], [1], [1], [0], [0]])
        self.assertEqual(clefs([at_steps([0, 74])]), [0])

    def test_a_change_that_is_worth_it_and_one_that_is_not(self):
        self.assertEqual(clefs([at_steps([51, 51]), at_steps([20, 20])]), [0, 2])
        self.assertEqual(clefs([at_steps([45]), at_steps([31]), at_steps([45])]), [0, 0, 0])

    def test_as_cheap_with_a_change_as_without(self):
        # In clef 0 the second bar needs 4 small lines more than in clef 1: just what the change costs.
        bars = [at_steps([49, 49]), at_steps([35] * 4)]
        costs = rows_and_costs(bars)
        self.assertEqual((costs[(0, 0)], costs[(0, 1)], min(costs.values())), (8, 8, 8))
        self.assertEqual(clefs(bars), [0, 0])
        # Here the row with the change is the first one by order.
        bars = [at_steps([31, 35, 31, 31]), at_steps([41] * 4)]
        costs = rows_and_costs(bars)
        self.assertEqual((costs[(1, 0)], costs[(1, 1)], min(costs.values())), (4, 4, 4))
        self.assertEqual(clefs(bars), [1, 0])

    def test_the_first_bar_s_clef_may_be_any_at_no_cost(self):
        self.assertEqual(clefs([at_steps([25]), at_steps([25])]), [2, 2])

    def test_of_all_rows_that_cost_least_the_first_by_order(self):
        for bars in BARS:
            with self.subTest(bars=bars):
                costs = rows_and_costs(bars)
                least = min(costs.values())
                told = clefs(bars)
                self.assertIs(type(told), list)
                self.assertEqual(told, list(min(row for row in costs if costs[row] == least)))

    def test_some_of_the_bars_have_several_such_rows(self):
        several = 0
        for bars in BARS:
            costs = sorted(rows_and_costs(bars).values())
            several += len(bars) > 1 and costs[0] == costs[1]
        self.assertGreater(several, 5)

    def test_nothing_is_changed_or_kept(self):
        for bars in BARS:
            kept = copied(bars)
            told = clefs(bars)
            again = list(told)
            told.append(None)
            self.assertEqual(bars, kept)
            self.assertEqual(clefs(bars), again)

    def test_what_is_changed_by_the_caller_does_not_matter(self):
        bars = copied(BARS[-1])
        again = clefs(bars)
        spoilt(bars)
        self.assertEqual(clefs(BARS[-1]), again)


if __name__ == "__main__":
    unittest.main()
