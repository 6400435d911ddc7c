import unittest

from stavemill.errors import BadMeter
from stavemill.meters import bar_lengths, bars_needed, checked_meter, stands

PLAIN = [(0, 4, 16)]
SEVERAL = [(0, 4, 16), (2, 3, 16), (3, 7, 8), (9, 1, 8)]
FULL = [(bar, 4, 16) for bar in range(19)] + [(1000, 24, 16)]
METERS = [PLAIN, SEVERAL, FULL, [(0, 1, 8)], [(0, 8, 64), (1, 8, 1), (40, 3, 4)]]
NO_LISTS = [None, True, 0, 4, 4.0, "", "0:4x16", b"", (), ((0, 4, 16),), {}, {0: (0, 4, 16)}, {(0, 4, 16)},
            object(), list, range(3)]
NO_NUMBERS = [None, True, False, 1.0, 8.0, "8", "", [], [8], (), (8,), {}, {8}, object(), int]
NO_TUPLES = [None, True, 0, 8, 1.5, "048", "", [0, 4, 16], {}, {0: 1, 4: 1, 16: 1}, {0, 4, 16}, object(), tuple]


def slow_lengths(meter, many):
    """The lengths of bars, looked up for each bar by itself."""
    row = []
    for bar in range(many):
        told = max(one for one in meter if one[0] <= bar)
        row.append(told[1] * told[2])
    return row


def slow_stands(meter, ticks):
    """(bar, place) for each of the first ticks, counted one by one."""
    row = []
    for bar, length in enumerate(slow_lengths(meter, ticks)):
        row.extend((bar, place) for place in range(length))
        if len(row) >= ticks:
            break
    return row[:ticks]


class Refusals(unittest.TestCase):

    def refused(self, meter, at):
        with self.subTest(meter=meter):
            with self.assertRaises(BadMeter) as taken:
                checked_meter(meter)
            if at is None:
                self.assertIsNone(taken.exception.at)
            else:
                self.assertEqual((taken.exception.at, type(taken.exception.at)), (at, int))

    def refused_tuple(self, wrong):
        """A tuple that is wrong wherever it stands behind bar 0 and ahead of bar 1000."""
        self.refused([(0, 4, 16), wrong], 1)
        self.refused([(0, 4, 16), (1, 4, 16), wrong, (1000, 4, 16)], 2)
        self.refused([(0, 4, 16), wrong, wrong, None], 1)

    def test_no_list(self):
        for thing in NO_LISTS:
            self.refused(thing, None)

    def test_empty_and_more_than_twenty(self):
        self.refused([], None)
        self.refused([(bar, 4, 16) for bar in range(21)], None)
        self.refused([(bar, 4, 16) for bar in range(50)], None)
        self.refused([None] * 21, None)

    def test_no_tuple(self):
        for thing in NO_TUPLES:
            self.refused([thing], 0)
            self.refused_tuple(thing)

    def test_tuples_of_another_length(self):
        for thing in [(), (0,), (0, 4), (0, 4, 16, 1), (0, 4, 16, None)]:
            self.refused([thing], 0)
        for thing in [(), (5,), (5, 4), (5, 4, 16, 1), (5, 4, 16, None)]:
            self.refused_tuple(thing)

    def test_no_numbers(self):
        for thing in NO_NUMBERS:
            self.refused([(thing, 8, 8)], 0)
            self.refused([(0, thing, 8)], 0)
            self.refused([(0, 8, thing)], 0)
            self.refused_tuple((thing, 8, 8))
            self.refused_tuple((5, thing, 8))
            self.refused_tuple((5, 8, thing))

    def test_true_and_false_where_the_number_would_do(self):
        self.refused([(False, 8, 8)], 0)
        self.refused([(0, True, 8)], 0)
        self.refused([(0, 8, True)], 0)
        self.refused([(0, 4, 16), (True, 8, 8)], 1)

    def test_bars_beyond_their_bounds(self):
        self.refused([(-1, 4, 16)], 0)
        self.refused([(-1, 4, 16), (0, 4, 16)], 0)
        self.refused([(0, 4, 16), (1001, 4, 16)], 1)
        self.refused([(0, 4, 16), (1000, 4, 16), (1001, 4, 16)], 2)
        self.refused_tuple((-1, 4, 16))
        self.refused_tuple((10 ** 30, 4, 16))

    def test_tops_beyond_their_bounds(self):
        for top in (0, -1, -8, 25, 10 ** 30):
            self.refused([(0, top, 8)], 0)
            self.refused_tuple((5, top, 8))
        self.refused([(0, 25, 1)], 0)
        self.refused([(0, -1, -8)], 0)

    def test_units_that_are_none(self):
        for unit in [unit for unit in range(-8, 140) if unit not in (1, 2, 4, 8, 16, 32, 64)] + [512, 10 ** 30]:
            for top in (1, 2, 3, 8, 24):
                self.refused([(0, top, unit)], 0)
        self.refused_tuple((5, 8, 3))
        self.refused_tuple((5, 4, 128))

    def test_every_length_of_the_bar(self):
        for unit in (1, 2, 4, 8, 16, 32, 64):
            for top in range(1, 25):
                if top * unit in range(8, 513):
                    self.assertEqual(checked_meter([(0, top, unit)]), [(0, top, unit)])
                else:
                    self.refused([(0, top, unit)], 0)

    def test_lengths_of_the_bar_just_beyond(self):
        self.refused([(0, 7, 1)], 0)
        self.refused([(0, 3, 2)], 0)
        self.refused([(0, 17, 32)], 0)
        self.refused([(0, 9, 64)], 0)
        self.refused_tuple((5, 7, 1))
        self.refused_tuple((5, 9, 64))

    def test_the_first_bar_is_0(self):
        self.refused([(1, 4, 16)], 0)
        self.refused([(1, 4, 16), (2, 4, 16)], 0)
        self.refused([(1000, 4, 16)], 0)

    def test_bars_rise(self):
        self.refused([(0, 4, 16), (0, 4, 16)], 1)
        self.refused([(0, 4, 16), (5, 4, 16), (5, 3, 16)], 2)
        self.refused([(0, 4, 16), (5, 4, 16), (4, 3, 16), (9, 3, 16)], 2)
        self.refused([(0, 4, 16), (5, 4, 16), (0, 3, 16)], 2)

    def test_above_the_one_ahead_is_asked_not_above_all(self):
        self.refused([(0, 4, 16), (9, 4, 16), (3, 3, 16), (5, 3, 16)], 2)

    def test_the_first_wrong_one_is_told(self):
        self.refused([(0, 4, 16), (5, 4, 3), (5, 4, 16)], 1)
        self.refused([(0, 4, 16), (5, 4, 16), (5, 4, 16), None], 2)
        self.refused([(0, 4, 16), (5, 4, 16), None, (5, 4, 16)], 2)
        self.refused([(1, 4, 16), None], 0)
        self.refused([None, (1, 4, 16)], 0)

    def test_the_last_of_twenty(self):
        self.refused(FULL[:19] + [(18, 4, 16)], 19)
        self.refused(FULL[:19] + [(1001, 4, 16)], 19)

    def test_what_is_refused_stays_as_it_was(self):
        meter = [(0, 4, 16), (5, 4, 16), [5, 4, 16]]
        self.refused(meter, 2)
        self.assertEqual(meter, [(0, 4, 16), (5, 4, 16), [5, 4, 16]])


class Meters(unittest.TestCase):

    def test_a_meter_is_told_as_a_list_of_its_tuples(self):
        self.assertEqual(len(FULL), 20)
        for meter in METERS:
            with self.subTest(meter=meter):
                told = checked_meter(meter)
                self.assertIs(type(told), list)
                self.assertEqual(told, meter)
                self.assertEqual([type(one) for one in told], [tuple] * len(meter))

    def test_edges_are_taken(self):
        for meter in [[(0, 8, 1)], [(0, 24, 1)], [(0, 8, 64)], [(0, 1, 64)], [(0, 4, 2)],
                      [(0, 4, 16), (1, 4, 16)], [(0, 4, 16), (999, 4, 16), (1000, 4, 16)]]:
            self.assertEqual(checked_meter(meter), meter)

    def test_a_told_list_is_a_new_one(self):
        for meter in METERS:
            kept = list(meter)
            told = checked_meter(meter)
            self.assertIsNot(told, meter)
            told.append((1000, 1, 8))
            told[0] = None
            self.assertEqual(meter, kept)
            self.assertEqual(checked_meter(meter), kept)


class BarLengths(unittest.TestCase):

    def test_some_by_hand(self):
        self.assertEqual(bar_lengths(SEVERAL, 11), [64, 64, 48, 56, 56, 56, 56, 56, 56, 8, 8])
        self.assertEqual(bar_lengths(PLAIN, 3), [64, 64, 64])
        self.assertEqual(bar_lengths([(0, 8, 64), (1, 8, 1)], 3), [512, 8, 8])

    def test_from_no_bars_to_some_dozens(self):
        for meter in METERS:
            for many in range(60):
                with self.subTest(meter=meter, many=many):
                    self.assertEqual(bar_lengths(meter, many), slow_lengths(meter, many))

    def test_to_the_last_told_bar_and_beyond(self):
        told = bar_lengths(FULL, 1003)
        self.assertEqual(told, [64] * 1000 + [384] * 3)

    def test_no_bars(self):
        for meter in METERS:
            self.assertEqual(bar_lengths(meter, 0), [])

    def test_nothing_is_changed_or_kept(self):
        for meter in METERS:
            kept = list(meter)
            told = bar_lengths(meter, 12)
            self.assertIs(type(told), list)
            told.append(7)
            told[0] = 7
            self.assertEqual(meter, kept)
            self.assertEqual(bar_lengths(meter, 12), slow_lengths(kept, 12))


class Stands(unittest.TestCase):

    def test_tick_0(self):
        for meter in METERS:
            self.assertEqual(stands(meter, 0), (0, 0))

    def test_beginnings_and_ends_of_bars(self):
        for meter in METERS:
            begin = 0
            for bar, length in enumerate(slow_lengths(meter, 50)):
                with self.subTest(meter=meter, bar=bar):
                    self.assertEqual(stands(meter, begin), (bar, 0))
                    self.assertEqual(stands(meter, begin + 1), (bar, 1))
                    self.assertEqual(stands(meter, begin + length - 1), (bar, length - 1))
                begin += length

    def test_every_tick(self):
        for meter in METERS:
            self.assertEqual([stands(meter, tick) for tick in range(1500)], slow_stands(meter, 1500))

    def test_some_by_hand(self):
        told = [stands(SEVERAL, tick) for tick in (63, 64, 127, 128, 175, 176, 511, 512, 519, 520)]
        self.assertEqual(told, [(0, 63), (1, 0), (1, 63), (2, 0), (2, 47), (3, 0), (8, 55), (9, 0), (9, 7), (10, 0)])

    def test_far_behind_the_last_told_bar(self):
        self.assertEqual(stands(SEVERAL, 512 + 8 * 1000 + 3), (1009, 3))
        self.assertEqual(stands(PLAIN, 64 * 5000 - 1), (4999, 63))
        self.assertEqual(stands(FULL, 64000 - 1), (999, 63))
        self.assertEqual(stands(FULL, 64000), (1000, 0))
        self.assertEqual(stands(FULL, 64000 + 384 * 7 + 383), (1007, 383))

    def test_a_tuple_is_told_and_nothing_is_changed(self):
        for meter in METERS:
            kept = list(meter)
            self.assertIs(type(stands(meter, 700)), tuple)
            self.assertEqual(meter, kept)


class BarsNeeded(unittest.TestCase):

    def test_at_least_one(self):
        for meter in METERS:
            self.assertEqual(bars_needed(meter, 0), 1)
            self.assertEqual(bars_needed(meter, 1), 1)

    def test_a_bar_s_end_needs_no_further_bar(self):
        for meter in METERS:
            end = 0
            for bar, length in enumerate(slow_lengths(meter, 50)):
                with self.subTest(meter=meter, bar=bar):
                    self.assertEqual(bars_needed(meter, end + 1), bar + 1)
                    self.assertEqual(bars_needed(meter, end + length - 1), bar + 1)
                    self.assertEqual(bars_needed(meter, end + length), bar + 1)
                    self.assertEqual(bars_needed(meter, end + length + 1), bar + 2)
                end += length

    def test_every_end(self):
        for meter in METERS:
            for end in range(1500):
                many = bars_needed(meter, end)
                self.assertGreaterEqual(sum(slow_lengths(meter, many)), end)
                if many > 1:
                    self.assertLess(sum(slow_lengths(meter, many - 1)), end)

    def test_far_behind_the_last_told_bar(self):
        self.assertEqual(bars_needed(SEVERAL, 512 + 8 * 1000), 1009)
        self.assertEqual(bars_needed(SEVERAL, 512 + 8 * 1000 + 1), 1010)
        self.assertEqual(bars_needed(FULL, 64000), 1000)
        self.assertEqual(bars_needed(FULL, 64001), 1001)
        self.assertEqual(bars_needed(FULL, 64000 + 384 * 5), 1005)

    def test_nothing_is_changed(self):
        for meter in METERS:
            kept = list(meter)
            bars_needed(meter, 700)
            self.assertEqual(meter, kept)


if __name__ == "__main__":
    unittest.main()
