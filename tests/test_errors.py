"""The refusals: point [4] and the interface's section of wapentake/errors.py."""

import unittest

from wapentake import errors
from wapentake.rows import other

WORDS = {
    "BadCount": "bad count",
    "NoQuestion": "no question",
    "BadSign": "bad sign",
    "BadRow": "bad row",
    "BadPattern": "bad pattern",
    "NoRow": "no row",
    "NotBorne": "not borne",
    "Empty": "empty",
    "Unmatched": "unmatched",
    "NoBundle": "no bundle",
    "Twice": "told twice",
    "BadWeight": "bad weight",
    "Even": "even",
    "Torn": "torn",
    "BadName": "bad name",
    "Taken": "taken",
    "Broken": "broken",
    "NoPerson": "no person",
    "Same": "the same",
    "Sworn": "sworn",
    "NoOath": "no oath",
    "NotSworn": "not sworn",
    "Entered": "entered",
    "NoEntry": "no entry",
    "NotStanding": "not standing",
    "BadWalk": "bad walk",
    "Borne": "borne",
    "NothingLeft": "nothing left",
    "BadText": "bad text",
}


class TestErrors(unittest.TestCase):
    def test_there_are_twenty_nine_and_the_base(self):
        classes = [name for name, thing in vars(errors).items() if isinstance(thing, type)]
        self.assertEqual(sorted(classes), sorted([*WORDS, "WapentakeError"]))
        self.assertEqual(len(WORDS), 29)

    def test_the_base_stands_straight_under_value_error(self):
        self.assertEqual(errors.WapentakeError.__bases__, (ValueError,))

    def test_each_stands_straight_under_the_base(self):
        for name in WORDS:
            with self.subTest(name):
                kind = getattr(errors, name)
                self.assertEqual(kind.__bases__, (errors.WapentakeError,))
                self.assertTrue(issubclass(kind, ValueError))

    def test_each_has_its_word(self):
        for name, word in WORDS.items():
            with self.subTest(name):
                self.assertEqual(getattr(errors, name)().word, word)

    def test_a_raised_one_is_taken_as_the_base_with_its_word(self):
        for taken in (errors.BadSign, errors.WapentakeError, ValueError):
            with self.subTest(taken.__name__):
                with self.assertRaises(taken) as caught:
                    other("?")
                self.assertIs(type(caught.exception), errors.BadSign)
                self.assertEqual(caught.exception.word, "bad sign")


if __name__ == "__main__":
    unittest.main()
