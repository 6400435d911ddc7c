import unittest

from stavemill.errors import (
    BadKey, BadMeter, BadNotes, BadRoom, BadText, StaveError, TooThick, TooWide,
)

PLAIN = [BadKey, BadRoom, BadText, TooThick]
PLACED = [BadNotes, BadMeter, TooWide]


def every_error():
    return [error("words") for error in PLAIN] + [error(3) for error in PLACED]


class Errors(unittest.TestCase):

    def test_stave_error_is_a_value_error(self):
        self.assertTrue(issubclass(StaveError, ValueError))
        with self.assertRaises(ValueError):
            raise StaveError("words")

    def test_each_is_taken_by_stave_error_and_value_error(self):
        for error in every_error():
            for base in (StaveError, ValueError):
                with self.subTest(error=repr(error), base=base):
                    with self.assertRaises(base) as taken:
                        raise error
                    self.assertIs(taken.exception, error)

    def test_none_is_taken_by_another(self):
        for error in every_error():
            takers = [kind for kind in PLAIN + PLACED if isinstance(error, kind)]
            self.assertEqual(takers, [error.__class__])

    def test_stave_error_is_taken_by_none_of_them(self):
        for kind in PLAIN + PLACED:
            self.assertNotIsInstance(StaveError("words"), kind)

    def test_plain_ones_are_made_with_or_without_words(self):
        for kind in [StaveError] + PLAIN:
            with self.assertRaises(kind):
                raise kind()
            self.assertEqual(str(kind("words")), "words")

    def test_at_is_what_was_handed_in(self):
        for kind in PLACED:
            for at in (None, 0, 1, 59, 1000):
                with self.subTest(kind=kind, at=at):
                    self.assertIs(kind(at).at, at)

    def test_at_is_handed_in_by_name_too(self):
        for kind in PLACED:
            self.assertEqual(kind(at=7).at, 7)

    def test_at_is_each_object_s_own(self):
        for kind in PLACED:
            first, second = kind(1), kind(None)
            self.assertEqual((first.at, second.at), (1, None))
            self.assertFalse(hasattr(kind, "at"))

    def test_at_is_there_when_it_is_taken(self):
        for kind in PLACED:
            with self.assertRaises(StaveError) as taken:
                raise kind(5)
            self.assertEqual(taken.exception.at, 5)


if __name__ == "__main__":
    unittest.main()
