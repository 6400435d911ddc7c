import unittest

from stavemill.kinds import is_list_within, is_tuple_within, is_whole, is_whole_within

NO_WHOLES = [None, True, False, 1.0, "1", "", b"1", [], [1], (), (1,), {}, {1}, object(), int, 1j]
BOUNDS = ((0, 1000), (1, 400), (0, 127))


class Wholes(unittest.TestCase):

    def test_whole_numbers(self):
        for number in (-(10 ** 30), -1, 0, 1, 127, 10 ** 30):
            self.assertIs(is_whole(number), True)

    def test_what_is_no_whole_number(self):
        for thing in NO_WHOLES:
            with self.subTest(thing=thing):
                self.assertIs(is_whole(thing), False)
                self.assertIs(is_whole_within(thing, -7, 7), False)

    def test_bounds_belong_to_it(self):
        for number in range(-20, 21):
            self.assertIs(is_whole_within(number, -7, 7), number in range(-7, 8))


class Tuples(unittest.TestCase):

    def test_edges_are_within(self):
        for thing in [(0, 1, 0), (1000, 400, 127), (5, 6, 7)]:
            self.assertIs(is_tuple_within(thing, BOUNDS), True)

    def test_each_number_has_its_own_bounds(self):
        for thing in [(-1, 1, 0), (1001, 1, 0), (0, 0, 0), (0, 401, 0), (0, 1, -1), (0, 1, 128)]:
            with self.subTest(thing=thing):
                self.assertIs(is_tuple_within(thing, BOUNDS), False)

    def test_as_many_as_the_bounds(self):
        for thing in [(), (5,), (5, 6), (5, 6, 7, 8)]:
            self.assertIs(is_tuple_within(thing, BOUNDS), False)
        self.assertIs(is_tuple_within((), ()), True)

    def test_no_tuple(self):
        for thing in NO_WHOLES + [[5, 6, 7], "567", {5: 1, 6: 1, 7: 1}, 567]:
            with self.subTest(thing=thing):
                self.assertIs(is_tuple_within(thing, BOUNDS), False)

    def test_wrong_things_within_a_tuple(self):
        for wrong in NO_WHOLES:
            for place in range(3):
                thing = [5, 6, 7]
                thing[place] = wrong
                with self.subTest(thing=thing):
                    self.assertIs(is_tuple_within(tuple(thing), BOUNDS), False)


class Lists(unittest.TestCase):

    def test_bounds_belong_to_it(self):
        for many in range(10):
            self.assertIs(is_list_within([None] * many, 1, 6), many in range(1, 7))

    def test_no_list(self):
        for thing in [None, True, 3, "abc", (1, 2, 3), {1: 1}, {1}, range(3)]:
            with self.subTest(thing=thing):
                self.assertIs(is_list_within(thing, 0, 60), False)

    def test_nothing_is_changed(self):
        row = [(1, 2, 3), "x", None]
        is_list_within(row, 0, 60)
        self.assertEqual(row, [(1, 2, 3), "x", None])


if __name__ == "__main__":
    unittest.main()
