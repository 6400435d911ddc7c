import unittest

from stavemill.values import base_and_dots, can_write, pieces


def shapes():
    """Length to (base, dots), worked out from the document's words."""
    row = {}
    for base in (1, 2, 4, 8, 16, 32, 64):
        row[base] = (base, 0)
        if base % 2 == 0:
            row[base + base // 2] = (base, 1)
        if base % 4 == 0:
            row[base + base // 2 + base // 4] = (base, 2)
    return row


EIGHTEEN = [1, 2, 3, 4, 6, 7, 8, 12, 14, 16, 24, 28, 32, 48, 56, 64, 96, 112]


class CanWrite(unittest.TestCase):

    def test_the_lengths_are_eighteen(self):
        self.assertEqual(sorted(shapes()), EIGHTEEN)
        self.assertEqual(len(EIGHTEEN), 18)

    def test_every_length(self):
        for length in range(513):
            with self.subTest(length=length):
                self.assertIs(can_write(length), length in EIGHTEEN)

    def test_somewhat_beyond(self):
        for length in list(range(-20, 0)) + list(range(513, 600)):
            self.assertIs(can_write(length), False)


class BaseAndDots(unittest.TestCase):

    def test_each_of_the_eighteen(self):
        for value, shape in shapes().items():
            with self.subTest(value=value):
                told = base_and_dots(value)
                self.assertIsInstance(told, tuple)
                self.assertEqual(told, shape)
                self.assertEqual([part.__class__ for part in told], [int, int])

    def test_some_by_hand(self):
        told = [base_and_dots(value) for value in (1, 3, 7, 64, 96, 112)]
        self.assertEqual(told, [(1, 0), (2, 1), (4, 2), (64, 0), (64, 1), (64, 2)])


class Pieces(unittest.TestCase):

    def check_pieces(self, length):
        row = pieces(length)
        self.assertIsInstance(row, list)
        left = length
        for piece in row:
            self.assertIs(piece.__class__, int)
            self.assertEqual(piece, max([value for value in EIGHTEEN if value <= left]))
            left -= piece
        self.assertEqual(left, 0)

    def test_every_length(self):
        for length in range(513):
            with self.subTest(length=length):
                self.check_pieces(length)

    def test_somewhat_beyond(self):
        for length in range(513, 1100):
            self.check_pieces(length)

    def test_nought_has_no_pieces(self):
        self.assertEqual(pieces(0), [])

    def test_what_can_be_written_is_one_piece(self):
        for value in EIGHTEEN:
            self.assertEqual(pieces(value), [value])

    def test_some_by_hand(self):
        self.assertEqual(pieces(5), [4, 1])
        self.assertEqual(pieces(11), [8, 3])
        self.assertEqual(pieces(111), [96, 14, 1])
        self.assertEqual(pieces(512), [112, 112, 112, 112, 64])

    def test_a_told_list_is_a_new_one(self):
        for length in range(513):
            told = pieces(length)
            kept = list(told)
            told.append(99)
            told[0] = 98
            again = pieces(length)
            self.assertIsNot(again, told)
            self.assertEqual(again, kept)


if __name__ == "__main__":
    unittest.main()
