"""Rulings and patterns: points [1] to [5], [10], [11] and the interface's section of wapentake/fills.py."""

import itertools
import random
import unittest

from reference import (SQUARE, TableCase, agrees, all_patterns, all_row_sets, all_rows, bad_texts, borne, came_about,
                       chain, drawn_row_lists, filled_with, standing_pairs, wide)
from wapentake import fills
from wapentake.errors import BadPattern, BadRow, Empty
from wapentake.fills import filled, lacks, matching, meeting, rulings
from wapentake.table import Table


def lacks_of(rows, row):
    stands = standing_pairs(rows)
    return [(q, r) for q in range(len(row)) for r in range(len(row))
            if q <= r and (q, row[q], r, row[r]) not in stands]


class FillsCase(TableCase):
    def assert_filled(self, rows, pattern, told):
        """That what filled tells of a pattern holds for the rows."""
        self.assertIs(type(told), tuple)
        if told[0] == "row":
            self.assertEqual(len(told), 2)
            self.assertEqual(lacks_of(rows, told[1]), [], told)
            self.assertTrue(agrees(told[1], pattern), (pattern, told))
        else:
            word, q, r = told
            self.assertEqual(word, "nobody")
            self.assertTrue(0 <= q <= r < len(pattern), told)
            self.assertNotIn("-", (pattern[q], pattern[r]), told)
            self.assertFalse([row for row in rows if (row[q], row[r]) == (pattern[q], pattern[r])], (pattern, told))

    def assert_met(self, all_rulings, patterns, told):
        """That what meeting tells of patterns holds for the rulings."""
        self.assertIs(type(told), tuple)
        if told[0] == "row":
            self.assertEqual(len(told), 2)
            self.assertIn(told[1], all_rulings)
            self.assertTrue(all(agrees(told[1], pattern) for pattern in patterns), (patterns, told))
            return
        word, k, l = told
        self.assertEqual(word, "apart")
        self.assertTrue(0 <= k <= l < len(patterns), told)
        both = [row for row in all_rulings if agrees(row, patterns[k]) and agrees(row, patterns[l])]
        self.assertEqual(both, [], (patterns, told))
        alone = [at for at, pattern in enumerate(patterns) if not [row for row in all_rulings if agrees(row, pattern)]]
        # The two numbers are one where one pattern by itself is matched by none, and unlike elsewhere.
        self.assertEqual(k == l, alone != [], (patterns, told))


class TestInterface(FillsCase):
    def test_the_arguments_are_called_as_told(self):
        self.assert_arguments(fills, {
            "lacks": "table row", "rulings": "table", "matching": "table pattern", "filled": "table pattern",
            "meeting": "table patterns"})


class TestLacks(FillsCase):
    def test_written_examples(self):
        table = filled_with(3, SQUARE)
        for row in SQUARE:
            self.assertEqual(lacks(table, row), [])
        self.assertEqual(lacks(table, "nny"), [(0, 2), (1, 2)])
        self.assertEqual(lacks(table, "yny"), [(1, 2)])
        self.assertEqual(lacks(table, "nyy"), [(0, 2)])

    def test_an_answer_that_nobody_gives(self):
        table = filled_with(3, ["yyn", "yny"])
        self.assertEqual(lacks(table, "nyn"), [(0, 0), (0, 1), (0, 2)])
        self.assertEqual(lacks(table, "yyy"), [(1, 2)])
        self.assertEqual(lacks(table, "nnn"), [(0, 0), (0, 1), (0, 2), (1, 2)])

    def test_kinds(self):
        told = lacks(filled_with(2, ["yy"]), "nn")
        self.assertIs(type(told), list)
        self.assertEqual([type(pair) for pair in told], [tuple] * 3)

    def test_one_question(self):
        self.assertEqual(lacks(filled_with(1, ["y"]), "y"), [])
        self.assertEqual(lacks(filled_with(1, ["y"]), "n"), [(0, 0)])

    def test_without_rows_a_row_lacks_all(self):
        for questions in range(1, 13):
            wanted = list(itertools.combinations_with_replacement(range(questions), 2))
            self.assertEqual(lacks(Table(questions), "y" * questions), wanted)
            self.assertEqual(lacks(Table(questions), "n" * questions), wanted)

    def test_all_rows_of_all_tables_of_up_to_three_questions(self):
        for questions in (1, 2, 3):
            for rows in all_row_sets(questions):
                table = filled_with(questions, rows)
                for row in all_rows(questions):
                    self.assertEqual(lacks(table, row), lacks_of(rows, row), (rows, row))

    def test_drawn_rows_of_four_to_twelve_questions(self):
        for questions in range(4, 13):
            for rows in drawn_row_lists(questions, 8, 9, seed=questions):
                table = filled_with(questions, rows)
                for row in rows + all_rows(questions)[::1 + 4 ** (questions - 4) // 64]:
                    self.assertEqual(lacks(table, row), lacks_of(rows, row), (rows, row))

    def test_behind_rows_taken_out(self):
        table = filled_with(3, SQUARE + ["nny"])
        self.assertEqual(lacks(table, "nny"), [])
        table.take("nny")
        self.assertEqual(lacks(table, "nny"), [(0, 2), (1, 2)])


class TestRulings(FillsCase):
    def test_written_examples(self):
        self.assertEqual(rulings(filled_with(3, SQUARE)), sorted(SQUARE))
        self.assertEqual(rulings(filled_with(3, ["yyn", "yny", "nyy"])), ["nyy", "yny", "yyn", "yyy"])
        self.assertEqual(rulings(filled_with(3, ["yyn", "yny"])), ["yny", "yyn"])
        self.assertEqual(rulings(filled_with(1, ["y", "y", "n"])), ["n", "y"])

    def test_without_rows_there_are_none(self):
        for questions in range(1, 13):
            self.assertEqual(rulings(Table(questions)), [])

    def test_of_one_row(self):
        for questions in range(1, 13):
            row = ("nyy" * 4)[:questions]
            self.assertEqual(rulings(filled_with(questions, [row, row])), [row])

    def test_what_comes_about_by_threes_for_all_tables_of_up_to_three_questions(self):
        for questions in (1, 2, 3):
            for rows in all_row_sets(questions):
                self.assertEqual(rulings(filled_with(questions, rows)), came_about(rows), rows)

    def test_what_comes_about_by_threes_for_four_and_five_questions(self):
        for questions in (4, 5):
            for rows in drawn_row_lists(questions, 80, 9, seed=10 + questions):
                self.assertEqual(rulings(filled_with(questions, rows)), came_about(rows), rows)

    def test_the_rows_without_lacks_for_six_to_twelve_questions(self):
        for questions in range(6, 13):
            for rows in drawn_row_lists(questions, 6, 12, seed=20 + questions) + [chain(questions), wide(questions)]:
                told = rulings(filled_with(questions, rows))
                self.assertEqual(told, borne(rows, questions), rows)
                self.assertEqual([row for row in rows if row not in told], [])

    def test_behind_rows_taken_out(self):
        table = filled_with(3, ["yyn", "yny", "nyy"])
        table.take("nyy")
        self.assertEqual(rulings(table), ["yny", "yyn"])
        table.take("yny")
        table.take("yyn")
        self.assertEqual(rulings(table), [])


class TestMatching(FillsCase):
    def test_written_examples(self):
        table = filled_with(3, SQUARE)
        self.assertEqual(matching(table, "---"), sorted(SQUARE))
        self.assertEqual(matching(table, "--y"), ["yyy"])
        self.assertEqual(matching(table, "y--"), ["ynn", "yyn", "yyy"])
        self.assertEqual(matching(table, "nn-"), ["nnn"])
        self.assertEqual(matching(table, "yyn"), ["yyn"])
        self.assertEqual(matching(table, "n-y"), [])
        self.assertEqual(matching(table, "nyy"), [])

    def test_all_patterns_of_up_to_five_questions(self):
        for questions in range(1, 6):
            for rows in drawn_row_lists(questions, 12, 8, seed=30 + questions):
                table = filled_with(questions, rows)
                found = came_about(rows)
                for pattern in all_patterns(questions):
                    wanted = [row for row in found if agrees(row, pattern)]
                    self.assertEqual(matching(table, pattern), wanted, (rows, pattern))

    def test_patterns_of_twelve_questions(self):
        draw = random.Random(12)
        for rows in drawn_row_lists(12, 6, 12, seed=40) + [chain(12), wide(12)]:
            table = filled_with(12, rows)
            found = borne(rows, 12)
            for row in rows[:6] + [draw.choice(all_rows(12)) for each in range(6)]:
                pattern = "".join(draw.choice((sign, "-", "-")) for sign in row)
                self.assertEqual(matching(table, pattern), [row for row in found if agrees(row, pattern)])

    def test_without_rows_there_are_none(self):
        for questions in (1, 2, 12):
            for pattern in ("-" * questions, "y" * questions, "n" * questions):
                self.assertEqual(matching(Table(questions), pattern), [])


class TestFilled(FillsCase):
    def test_written_examples(self):
        table = filled_with(3, SQUARE)
        self.assertEqual(filled(table, "--y"), ("row", "yyy"))
        self.assertEqual(filled(table, "yyn"), ("row", "yyn"))
        self.assertEqual(filled(table, "nn-"), ("row", "nnn"))
        self.assertEqual(filled(table, "n-y"), ("nobody", 0, 2))
        self.assertEqual(filled(table, "-ny"), ("nobody", 1, 2))
        self.assertEqual(filled(filled_with(3, ["yyn", "yny"]), "n--"), ("nobody", 0, 0))
        self.assertEqual(filled(filled_with(1, ["y"]), "n"), ("nobody", 0, 0))
        self.assertEqual(filled(filled_with(1, ["y"]), "-"), ("row", "y"))

    def test_all_patterns_of_all_tables_of_up_to_three_questions(self):
        for questions in (1, 2, 3):
            for rows in all_row_sets(questions):
                self.check_all_patterns(questions, rows)

    def test_all_patterns_of_four_and_five_questions(self):
        for questions in (4, 5):
            for rows in drawn_row_lists(questions, 25, 8, seed=50 + questions):
                self.check_all_patterns(questions, rows)

    def check_all_patterns(self, questions, rows):
        table = filled_with(questions, rows)
        found = came_about(rows)
        for pattern in all_patterns(questions):
            told = filled(table, pattern)
            self.assert_filled(rows, pattern, told)
            self.assertEqual(told[0] == "row", any(agrees(row, pattern) for row in found), (rows, pattern))

    def test_patterns_of_twelve_questions(self):
        draw = random.Random(13)
        for rows in drawn_row_lists(12, 30, 12, seed=60) + [chain(12), wide(12)]:
            table = filled_with(12, rows)
            for each in range(30):
                pattern = "".join(draw.choice("ny---") for sign in range(12))
                self.assert_filled(rows, pattern, filled(table, pattern))


class TestMeeting(FillsCase):
    def test_no_patterns(self):
        for rows in drawn_row_lists(5, 20, 8, seed=70):
            word, row = meeting(filled_with(5, rows), [])
            self.assertEqual(word, "row")
            self.assertEqual(lacks_of(rows, row), [])

    def test_written_examples(self):
        table = filled_with(3, SQUARE)
        self.assertEqual(meeting(table, ["--y"]), ("row", "yyy"))
        self.assertEqual(meeting(table, ["n--", "-n-"]), ("row", "nnn"))
        self.assertEqual(meeting(table, ["y--", "-n-", "y--"]), ("row", "ynn"))
        self.assertEqual(meeting(table, ["---", "n--", "--y"]), ("apart", 1, 2))
        self.assertEqual(meeting(table, ["n--", "---", "y--"]), ("apart", 0, 2))

    def test_one_pattern_twice(self):
        table = filled_with(3, SQUARE)
        found = came_about(SQUARE)
        for pattern in all_patterns(3):
            for patterns in ([pattern], [pattern, pattern], [pattern] * 5, ["---", pattern, "---", pattern]):
                self.assert_met(found, patterns, meeting(table, patterns))
        self.assertEqual(meeting(table, ["--y", "--y"]), ("row", "yyy"))

    def test_a_pattern_that_no_ruling_matches_by_itself(self):
        table = filled_with(3, SQUARE)
        self.assertEqual(meeting(table, ["n-y"]), ("apart", 0, 0))
        self.assertEqual(meeting(table, ["---", "y--", "n-y"]), ("apart", 2, 2))
        # The first two are apart as well, but one that is matched by none is told by itself.
        self.assertEqual(meeting(table, ["y--", "n--", "n-y"]), ("apart", 2, 2))
        self.assertIn(meeting(table, ["n-y", "n-y"]), [("apart", 0, 0), ("apart", 1, 1)])

    def test_each_two_meet_but_one_pair(self):
        # Three at a time are never needed: what each two patterns can have, all can have.
        rows = ["yyyn", "yyny", "ynyy", "nyyy"]
        table = filled_with(4, rows)
        self.assertEqual(meeting(table, ["y---", "-y--", "--y-", "---y"]), ("row", "yyyy"))
        self.assertEqual(meeting(table, ["n---", "-y--", "--y-", "---y"]), ("row", "nyyy"))
        self.assertEqual(meeting(table, ["y---", "-n--", "--y-", "---n"]), ("apart", 1, 3))

    def test_all_twos_of_all_patterns(self):
        for questions in (1, 2, 3):
            for rows in drawn_row_lists(questions, 10, 5, seed=80 + questions):
                self.check_lists(questions, rows, itertools.product(all_patterns(questions), repeat=2))

    def test_drawn_lists_of_patterns(self):
        draw = random.Random(14)
        for questions in (3, 4, 5):
            for rows in drawn_row_lists(questions, 30, 8, seed=90 + questions):
                patterns = all_patterns(questions)
                few = [pattern for pattern in patterns if pattern.count("-") >= questions - 2]
                lists = [[draw.choice(few) for each in range(draw.randint(1, 6))] for more in range(40)]
                lists += [[draw.choice(patterns) for each in range(draw.randint(1, 4))] for more in range(10)]
                self.check_lists(questions, rows, lists)

    def check_lists(self, questions, rows, lists):
        table = filled_with(questions, rows)
        found = came_about(rows)
        for patterns in lists:
            told = meeting(table, list(patterns))
            self.assert_met(found, patterns, told)
            wanted = [row for row in found if all(agrees(row, pattern) for pattern in patterns)]
            self.assertEqual(told[0] == "row", wanted != [], (rows, patterns))

    def test_two_hundred_patterns_of_twelve_questions(self):
        table = filled_with(12, wide(12))
        goal = "ynnyynynnyyn"
        patterns = ["".join(sign if (at * 7 + each) % 3 else "-" for at, sign in enumerate(goal))
                    for each in range(200)]
        self.assertEqual(self.assert_soon(meeting, table, patterns), ("row", goal))
        patterns[199] = "-" * 11 + "y"
        word, k, l = self.assert_soon(meeting, table, patterns)
        self.assertEqual((word, l), ("apart", 199))
        self.assertEqual(patterns[k][11], "n")


class TestRefusals(FillsCase):
    def test_texts_that_are_no_rows(self):
        for table in (Table(3), filled_with(3, SQUARE)):
            for text in bad_texts("yyn", stroke=False):
                with self.subTest(text[:9]):
                    self.assert_refused(BadRow, table, lacks, table, text)

    def test_texts_that_are_no_patterns(self):
        for table in (Table(3), filled_with(3, SQUARE)):
            for text in bad_texts("y-n", stroke=True):
                with self.subTest(text[:9]):
                    self.assert_refused(BadPattern, table, matching, table, text)
                    self.assert_refused(BadPattern, table, filled, table, text)

    def test_texts_that_are_no_patterns_at_each_place_of_a_list(self):
        for table in (Table(3), filled_with(3, SQUARE)):
            for text in bad_texts("y-n", stroke=True):
                # Neither an earlier pattern that no ruling matches nor a later one keeps it from being refused.
                for patterns in ([text], [text, "---"], ["---", text], ["n-y", text, "n--"], ["y--", "n--", text]):
                    with self.subTest(text=text[:9], at=patterns.index(text)):
                        self.assert_refused(BadPattern, table, meeting, table, patterns)

    def test_twelve_questions(self):
        table = filled_with(12, wide(12))
        for length in (0, 1, 11, 13, 14):
            self.assert_refused(BadRow, table, lacks, table, "y" * length)
            self.assert_refused(BadPattern, table, matching, table, "-" * length)
            self.assert_refused(BadPattern, table, filled, table, "-" * length)
            self.assert_refused(BadPattern, table, meeting, table, ["-" * 12, "-" * length])

    def test_a_table_without_rows(self):
        for questions in (1, 2, 12):
            table = Table(questions)
            for pattern in ("-" * questions, "y" * questions, "n" * questions):
                self.assert_refused(Empty, table, filled, table, pattern)
                self.assert_refused(Empty, table, meeting, table, [pattern])
                self.assert_refused(Empty, table, meeting, table, [pattern, "-" * questions])
            self.assert_refused(Empty, table, meeting, table, [])
        self.assert_refused(Empty, table, meeting, table, ["y" + "-" * 11, "n" + "-" * 11])

    def test_a_table_whose_rows_were_taken_out(self):
        table = filled_with(2, ["yn"])
        table.take("yn")
        self.assert_refused(Empty, table, filled, table, "--")
        self.assert_refused(Empty, table, meeting, table, [])
        self.assertEqual(matching(table, "--"), [])


class TestOwn(FillsCase):
    def test_told_lists_are_the_askers_own_and_asking_changes_nothing(self):
        for rows in (["ynn"], SQUARE, all_rows(3)):
            table = filled_with(3, rows)
            self.assert_own(table, lacks, "nny")
            self.assert_own(table, rulings)
            self.assert_own(table, matching, "y--")
            self.assert_own(table, filled, "y--")
            self.assert_own(table, meeting, ["y--", "-n-", "y--"])
            self.assert_own(table, meeting, ["y--", "n--"])
        self.assert_own(Table(3), lacks, "nny")
        self.assert_own(Table(3), rulings)

    def test_twelve_questions_with_4096_rulings_are_answered_soon(self):
        table = filled_with(12, wide(12))
        every = all_rows(12)
        self.assertEqual(self.assert_soon(rulings, table), every)
        self.assertEqual(self.assert_soon(matching, table, "-" * 12), every)
        self.assertEqual(self.assert_soon(matching, table, "-" * 11 + "y"), every[1::2])
        self.assertEqual(self.assert_soon(lacks, table, "ynynynynynyn"), [])
        self.assert_filled(wide(12), "-" * 12, self.assert_soon(filled, table, "-" * 12))
        self.assert_filled(wide(12), "y" + "-" * 11, self.assert_soon(filled, table, "y" + "-" * 11))

    def test_two_hundred_rows_of_twelve_questions_are_answered_soon(self):
        rows = all_rows(12)[::21][:200]
        table = filled_with(12, rows)
        self.assertEqual(self.assert_soon(rulings, table), borne(rows, 12))


if __name__ == "__main__":
    unittest.main()
