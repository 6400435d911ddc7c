import copy
import itertools
import unittest

from scattered import Dice
from stavemill.folds import fold_prices, folded, unfolded


class Odd:
    """A thing that is told apart by == alone: it has no order and can't be the key of a dict."""

    def __init__(self, name):
        self.name = name

    def __eq__(self, other):
        return isinstance(other, Odd) and self.name == other.name

    __hash__ = None


def thrown_row(seed, many, things):
    """A row of things of which parts come again and again."""
    dice = Dice(seed)
    row = []
    while len(row) < many:
        body = [dice.pick(things) for _ in range(1 + dice.below(5))]
        row += body * (1 + dice.below(4))
    return row[:many]


SMALL = [list(row) for many in range(8) for row in itertools.product("ab", repeat=many)]
SMALL += [list(row) for row in itertools.product("abc", repeat=5)]
SMALL += [thrown_row(seed, 8 + seed % 3, "ab") for seed in range(20)] + [thrown_row(seed, 10, "abc") for seed in range(20)]
LISTS = [[1], [1, []], [[1]], [], [1]]
OTHERS = [
    [5], [5, 5], [5, 5, 5, 6], ["a", "a", "b"], [None, None, None], [[]], [[], []], [[1], [1], [2]],
    LISTS * 3, [[1, [2]], {"a": [1]}, (1, [2])] * 2, [Odd("a"), Odd("b")] * 3, [Odd("a"), "a", Odd("a"), "a"],
]
LONG = [thrown_row(seed, 40 + 40 * (seed % 5), "ab" if seed % 2 else "abcd") for seed in range(10)]


def folds_at(row, at):
    """Every fold that can begin at a place of a row."""
    told = []
    for size in range(1, len(row) - at + 1):
        body = row[at:at + size]
        times = 1
        while at + size * times <= len(row) and row[at:at + size * times] == body * times:
            told.append((times, body))
            times += 1
    return told


def ways(row, at=0):
    """Every way to fold a row from a place on."""
    if at == len(row):
        return [[]]
    return [[fold] + rest for fold in folds_at(row, at) for rest in ways(row, at + fold[0] * len(fold[1]))]


def cost(folds):
    return sum(2 + len(body) for times, body in folds)


def slow_prices(row):
    """The prices, of all ways to fold the row from each thing on."""
    return [min(cost(folds) for folds in ways(row, at)) for at in range(len(row))]


def in_order(folds):
    """What of ways that cost alike the told one has least."""
    return [(-times * len(body), len(body)) for times, body in folds]


def slow_folded(row):
    """Of all ways that cost least the one that is told."""
    told = ways(row)
    least = min(cost(folds) for folds in told)
    return min((folds for folds in told if cost(folds) == least), key=in_order)


def step_prices(row):
    """The prices of a long row, each from those behind it."""
    prices = [0]
    for at in range(len(row) - 1, -1, -1):
        prices.insert(0, min(2 + len(body) + prices[times * len(body) - 1] for times, body in folds_at(row, at)))
    return prices[:-1]


class Prices(unittest.TestCase):

    def test_an_empty_row(self):
        self.assertEqual(fold_prices([]), [])

    def test_one_thing(self):
        for thing in (5, "a", [], [1, 2], None, Odd("a")):
            self.assertEqual(fold_prices([thing]), [3])

    def test_some_by_hand(self):
        self.assertEqual(fold_prices([5, 5]), [3, 3])
        self.assertEqual(fold_prices([5, 6]), [4, 3])
        self.assertEqual(fold_prices(list("ababab")), [4, 7, 4, 5, 4, 3])
        self.assertEqual(fold_prices(list("abc")), [5, 4, 3])
        self.assertEqual(fold_prices(list("aaaab")), [6, 6, 5, 4, 3])
        self.assertEqual(fold_prices(list("aaaaaab")), [6, 6, 6, 6, 5, 4, 3])

    def test_against_all_ways(self):
        for row in SMALL + OTHERS:
            if len(row) > 12:
                continue
            told = fold_prices(row)
            self.assertIs(type(told), list)
            self.assertEqual(told, slow_prices(row), row)

    def test_long_rows(self):
        for row in LONG:
            self.assertEqual(fold_prices(row), step_prices(row))

    def test_200_things(self):
        self.assertEqual(fold_prices([7] * 200), [3] * 200)
        self.assertEqual(fold_prices(list(range(200))), list(range(202, 2, -1)))
        self.assertEqual(fold_prices(list("ab") * 100)[:2], [4, 7])
        self.assertEqual(fold_prices([[7]] * 200), [3] * 200)

    def test_somewhat_more_things(self):
        self.assertEqual(fold_prices([7, 8, 9] * 80)[0], 5)

    def test_things_are_told_apart_by_equality(self):
        self.assertEqual(fold_prices([1, True, 1.0]), [3, 3, 3])
        self.assertEqual(fold_prices(["1", 1, "1", 1]), [4, 5, 4, 3])
        # This one is no number, and not even equal to itself.
        self.assertEqual(fold_prices([float("nan")] * 4), [6, 5, 4, 3])

    def test_nothing_is_changed_or_kept(self):
        for row in SMALL[::7] + OTHERS + LONG[:2]:
            kept = copy.deepcopy(row)
            told = fold_prices(row)
            again = list(told)
            told.clear()
            self.assertEqual(row, kept)
            self.assertEqual(fold_prices(row), again)


class Folded(unittest.TestCase):

    def test_an_empty_row(self):
        self.assertEqual(folded([]), [])

    def test_one_thing(self):
        for thing in (5, "a", [], [1, 2], None, Odd("a")):
            self.assertEqual(folded([thing]), [(1, [thing])])

    def test_some_by_hand(self):
        self.assertEqual(folded([5, 5]), [(2, [5])])
        self.assertEqual(folded([5, 6]), [(1, [5, 6])])
        self.assertEqual(folded(list("ababab")), [(3, ["a", "b"])])
        self.assertEqual(folded(list("babababa")), [(4, ["b", "a"])])
        self.assertEqual(folded(list("xyababab")), [(1, ["x", "y"]), (3, ["a", "b"])])
        self.assertEqual(folded(list("abcabcabcd")), [(3, ["a", "b", "c"]), (1, ["d"])])

    def test_a_fold_that_is_not_worth_it(self):
        # a a b is (2, [a]), (1, [b]) at 6, or one body at 5.
        self.assertEqual(folded(list("aab")), [(1, ["a", "a", "b"])])

    def test_of_ways_that_cost_alike_the_first_fold_tells_the_most(self):
        # (3, [a]), (1, [b]) costs 6 as well.
        self.assertEqual(folded(list("aaab")), [(1, ["a", "a", "a", "b"])])
        self.assertEqual(folded(list("abbb")), [(1, ["a", "b", "b", "b"])])
        # (1, [a, a, a, b]), (3, [a]) would tell 4 things first, (3, [a]), (1, [b]), (3, [a]) 3 of them.
        self.assertEqual(folded(list("aaabaaa")), [(1, list("aaabaaa"))])

    def test_then_the_second_fold(self):
        self.assertEqual(folded(list("xxxxxxxx") + list("aaab")), [(8, ["x"]), (1, ["a", "a", "a", "b"])])

    def test_of_one_fold_s_things_the_shortest_body(self):
        self.assertEqual(folded([5] * 12), [(12, [5])])
        self.assertEqual(folded(list("abab") * 3), [(6, ["a", "b"])])

    def test_against_all_ways(self):
        for row in SMALL + OTHERS:
            if len(row) > 12:
                continue
            told = folded(row)
            self.assertEqual(told, slow_folded(row), row)
            self.assertEqual([type(told)] + [(type(fold), type(fold[0]), type(fold[1])) for fold in told],
                             [list] + [(tuple, int, list)] * len(told))

    def test_some_of_the_rows_have_several_cheapest_ways(self):
        several = 0
        for row in SMALL:
            costs = sorted(cost(folds) for folds in ways(row))
            several += len(costs) > 1 and costs[0] == costs[1]
        self.assertGreater(several, 100)

    def test_long_rows(self):
        for row in LONG:
            told = folded(row)
            prices = step_prices(row) + [0]
            at = 0
            for times, body in told:
                same = [fold for fold in folds_at(row, at)
                        if 2 + len(fold[1]) + prices[at + fold[0] * len(fold[1])] == prices[at]]
                self.assertEqual((times, body), min(same, key=lambda fold: in_order([fold])))
                at += times * len(body)
            self.assertEqual(at, len(row))

    def test_200_things(self):
        self.assertEqual(folded([7] * 200), [(200, [7])])
        self.assertEqual(folded(list(range(200))), [(1, list(range(200)))])
        self.assertEqual(folded(list("ab") * 100), [(100, ["a", "b"])])
        self.assertEqual(folded([[7], [8]] * 100), [(100, [[7], [8]])])

    def test_somewhat_more_things(self):
        self.assertEqual(folded([7, 8, 9] * 80), [(80, [7, 8, 9])])

    def test_things_are_told_apart_by_equality(self):
        self.assertEqual(folded([1, True, 1.0]), [(3, [1])])
        self.assertEqual(folded(["1", 1, "1", 1]), [(2, ["1", 1])])
        self.assertEqual([(times, len(body)) for times, body in folded([float("nan")] * 4)], [(1, 4)])

    def test_nothing_is_changed_or_kept(self):
        for row in SMALL[::7] + OTHERS + LONG[:2]:
            kept = copy.deepcopy(row)
            told = folded(row)
            again = [(times, list(body)) for times, body in told]
            for times, body in told:
                body.clear()
            told.clear()
            self.assertEqual(row, kept)
            self.assertEqual(folded(row), again)

    def test_the_only_body_is_not_the_row_itself(self):
        row = [1, 2, 3]
        folded(row)[0][1].append(4)
        self.assertEqual(row, [1, 2, 3])


class Unfolded(unittest.TestCase):

    def test_no_folds(self):
        self.assertEqual(unfolded([]), [])

    def test_some_by_hand(self):
        self.assertEqual(unfolded([(1, [5])]), [5])
        self.assertEqual(unfolded([(3, ["a", "b"]), (1, ["c"]), (2, [[1]])]), list("abababc") + [[1], [1]])

    def test_also_folds_that_could_be_cheaper(self):
        self.assertEqual(unfolded([(1, [5]), (1, [5]), (2, [5, 5])]), [5] * 6)

    def test_every_way_tells_the_row(self):
        for row in SMALL[::9]:
            for folds in ways(row):
                self.assertEqual(unfolded(folds), row)

    def test_what_was_folded(self):
        for row in SMALL + OTHERS + LONG + [[7] * 200, list(range(200))]:
            told = unfolded(folded(row))
            self.assertEqual((told, type(told)), (row, list))

    def test_nothing_is_changed_or_kept(self):
        folds = [(1, [1, 2]), (2, [[3]])]
        told = unfolded(folds)
        told.append(4)
        told[0] = 5
        self.assertEqual(folds, [(1, [1, 2]), (2, [[3]])])
        self.assertEqual(unfolded(folds), [1, 2, [3], [3]])


if __name__ == "__main__":
    unittest.main()
