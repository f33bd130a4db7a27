"""Answers, rows, patterns and names: points [1], [5], [6] and the interface's section of wapentake/rows.py."""

import itertools
import unittest

from reference import FORTY, SIXTY, TableCase, all_patterns, all_rows, two_of_three
from wapentake import rows
from wapentake.errors import BadCount, BadSign
from wapentake.rows import differ, go, is_name, is_pattern, is_row, matches, other

BAD_COUNTS = (0, -1, -2, -12, 13, 14, 100, FORTY, -FORTY, SIXTY, -SIXTY)
COUNTS = range(1, 13)
# A great letter, a stroke, a blank, a line end, a figure, and letters that are no answers.
NO_ANSWERS = ("Y", "N", "-", " ", "\n", "0", "1", "a", "x", "z", "~", "!")
ALL_SIGNS = [chr(code) for code in range(32, 127) if chr(code) != "%"] + ["\n"]


def good_text(signs, length):
    """A text of such a length that runs through the signs."""
    return (signs * length)[:length]


def with_one(text, at, sign):
    return text[:at] + sign + text[at + 1:]


class TestInterface(TableCase):
    def test_the_arguments_are_called_as_told(self):
        self.assert_arguments(rows, {
            "other": "sign", "is_row": "row questions", "is_pattern": "pattern questions", "is_name": "name",
            "go": "one two three", "differ": "one other", "matches": "row pattern"})


class TestOther(unittest.TestCase):
    def test_both_answers(self):
        self.assertEqual(other("y"), "n")
        self.assertEqual(other("n"), "y")

    def test_every_other_sign_is_refused(self):
        for sign in ALL_SIGNS:
            if sign not in ("y", "n"):
                with self.subTest(sign), self.assertRaises(BadSign):
                    other(sign)

    def test_texts_of_no_or_more_signs_are_refused(self):
        for text in ("", "yy", "nn", "yn", "ny", "y ", " y", "y\n", "yes", "no", "y" * 40000):
            with self.subTest(text[:9]), self.assertRaises(BadSign):
                other(text)


class FormTests:
    """What is_row and is_pattern have in common."""

    def test_texts_of_nought_to_fourteen_signs(self):
        for questions in COUNTS:
            for length in range(15):
                text = good_text(self.signs, length)
                with self.subTest(questions=questions, length=length):
                    self.assertIs(self.form(text, questions), length == questions)

    def test_texts_of_one_sign_throughout(self):
        for questions in COUNTS:
            for sign in ALL_SIGNS:
                with self.subTest(questions=questions, sign=sign):
                    self.assertIs(self.form(sign * questions, questions), sign in self.signs)

    def test_one_wrong_sign_at_each_place(self):
        for questions in COUNTS:
            good = good_text(self.signs, questions)
            for at in range(questions):
                for sign in NO_ANSWERS:
                    if sign not in self.signs:
                        with self.subTest(questions=questions, at=at, sign=sign):
                            self.assertIs(self.form(with_one(good, at, sign), questions), False)

    def test_a_sign_more_ahead_or_behind(self):
        for questions in COUNTS:
            good = good_text(self.signs, questions)
            for text in (" " + good, good + " ", good + "\n", "\n" + good, good + "y", good[:-1]):
                with self.subTest(questions=questions, text=text):
                    self.assertIs(self.form(text, questions), False)

    def test_a_very_long_text(self):
        self.assertIs(self.form("y" * 40000, 12), False)

    def test_counts_out_of_bounds_are_refused_whatever_the_text(self):
        for questions in BAD_COUNTS:
            for text in ("", "y", "y" * 12, "y" * 13, "y" * 14, "?"):
                with self.subTest(questions=questions, text=text), self.assertRaises(BadCount):
                    self.form(text, questions)

    def test_counts_at_both_edges(self):
        self.assertIs(self.form("y", 1), True)
        self.assertIs(self.form("n", 1), True)
        self.assertIs(self.form("", 1), False)
        self.assertIs(self.form("yn", 1), False)
        self.assertIs(self.form("ynynynynynyn", 12), True)
        self.assertIs(self.form("ynynynynyny", 12), False)
        self.assertIs(self.form("ynynynynynyny", 12), False)


class TestIsRow(FormTests, unittest.TestCase):
    signs = "ny"

    def form(self, text, questions):
        return is_row(text, questions)

    def test_all_texts_of_three_signs(self):
        for text in all_patterns(3):
            with self.subTest(text):
                self.assertIs(is_row(text, 3), "-" not in text)


class TestIsPattern(FormTests, unittest.TestCase):
    signs = "ny-"

    def form(self, text, questions):
        return is_pattern(text, questions)

    def test_all_texts_of_three_signs(self):
        for text in all_patterns(3):
            with self.subTest(text):
                self.assertIs(is_pattern(text, 3), True)

    def test_without_answers_and_with_all_of_them(self):
        for questions in COUNTS:
            with self.subTest(questions):
                self.assertIs(is_pattern("-" * questions, questions), True)
                self.assertIs(is_pattern("y" * questions, questions), True)


class TestIsName(unittest.TestCase):
    def test_lengths(self):
        for text in ("a", "z", "a1", "ada", "z9y8x7", "a0", "a00000000000", "abcdefghijkl", "q" * 12):
            with self.subTest(text):
                self.assertIs(is_name(text), True)
        for length in range(15):
            with self.subTest(length):
                self.assertIs(is_name("b" * length), 1 <= length <= 12)
                self.assertIs(is_name("b" + "7" * length), length <= 11)
        self.assertIs(is_name("b" * 40000), False)

    def test_each_sign_as_the_first(self):
        for sign in ALL_SIGNS:
            with self.subTest(sign):
                good = sign in "abcdefghijklmnopqrstuvwxyz"
                self.assertIs(is_name(sign), good)
                self.assertIs(is_name(sign + "da"), good)
                self.assertIs(is_name(sign + "bcdefghijkl"), good)

    def test_each_sign_at_each_later_place(self):
        for length in range(2, 13):
            for at in range(1, length):
                for sign in ALL_SIGNS:
                    with self.subTest(length=length, at=at, sign=sign):
                        text = with_one("a" * length, at, sign)
                        self.assertIs(is_name(text), sign in "abcdefghijklmnopqrstuvwxyz0123456789")

    def test_blanks_and_line_ends_round_a_name(self):
        for text in (" ada", "ada ", "ada\n", "\nada", "a da", " ", "\n"):
            with self.subTest(text):
                self.assertIs(is_name(text), False)


class TestGo(unittest.TestCase):
    def test_written_examples(self):
        self.assertEqual(go("y", "n", "n"), "n")
        self.assertEqual(go("yyn", "yny", "nyy"), "yyy")
        self.assertEqual(go("nny", "nyn", "ynn"), "nnn")
        self.assertEqual(go("ynynynynynyn", "nynynynynyny", "yyyyyynnnnnn"), "yyyyyynnnnnn")

    def test_all_threes_of_all_rows(self):
        for questions in (1, 2, 3, 4):
            for three in itertools.product(all_rows(questions), repeat=3):
                self.assertEqual(go(*three), "".join(two_of_three(*signs) for signs in zip(*three)), three)

    def test_every_order_goes_alike(self):
        for three in (("yynn", "ynyn", "nyyn"), ("y" * 12, "n" * 12, "ynynynynynyn"), ("ny", "yn", "nn")):
            told = [go(*order) for order in itertools.permutations(three)]
            self.assertEqual(len(set(told)), 1, three)

    def test_two_alike_decide(self):
        for one, two in itertools.product(all_rows(4), repeat=2):
            self.assertEqual(go(one, one, two), one)
            self.assertEqual(go(one, two, one), one)
            self.assertEqual(go(two, one, one), one)

    def test_all_alike(self):
        for row in all_rows(6):
            self.assertEqual(go(row, row, row), row)


class TestDiffer(unittest.TestCase):
    def test_written_examples(self):
        self.assertEqual(differ("y", "n"), [0])
        self.assertEqual(differ("yyn", "nyy"), [0, 2])
        self.assertEqual(differ("n" * 12, "y" * 12), list(range(12)))
        self.assertEqual(differ("n" * 12, "n" * 11 + "y"), [11])

    def test_alike_throughout(self):
        for questions in COUNTS:
            row = good_text("yn", questions)
            self.assertEqual(differ(row, row), [])

    def test_all_rows_against_all(self):
        for one, two in itertools.product(all_rows(4), repeat=2):
            told = differ(one, two)
            turned = "".join("yn"[one[at] == "y"] if at in told else one[at] for at in range(4))
            self.assertEqual(turned, two)
            self.assertEqual(told, sorted(set(told)))

    def test_the_list_is_the_askers_own(self):
        told = differ("yn", "ny")
        told.append(7)
        self.assertEqual(differ("yn", "ny"), [0, 1])


class TestMatches(unittest.TestCase):
    def test_a_pattern_without_answers_is_matched_by_all(self):
        for row in all_rows(5):
            self.assertIs(matches(row, "-----"), True)

    def test_a_pattern_with_all_answers_is_matched_by_that_row_alone(self):
        for row, pattern in itertools.product(all_rows(4), repeat=2):
            self.assertIs(matches(row, pattern), row == pattern)

    def test_all_rows_and_all_patterns(self):
        for pattern in all_patterns(4):
            wanted = [row for row in all_rows(4)
                      if not [at for at in range(4) if {row[at], pattern[at]} == {"y", "n"}]]
            self.assertEqual([row for row in all_rows(4) if matches(row, pattern)], wanted, pattern)

    def test_one_answer_at_each_place_of_twelve(self):
        for at in range(12):
            pattern = with_one("-" * 12, at, "y")
            self.assertIs(matches("y" * 12, pattern), True)
            self.assertIs(matches(with_one("y" * 12, at, "n"), pattern), False)
            self.assertIs(matches(with_one("n" * 12, at, "y"), pattern), True)


if __name__ == "__main__":
    unittest.main()
