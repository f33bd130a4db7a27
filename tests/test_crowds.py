"""Crowds, quarrels, what a crowd goes for and the common pattern: points [2] to [5], [15] and wapentake/crowds.py."""

import itertools
import random
import unittest

from reference import (FORTY, SIXTY, SQUARE, TableCase, all_row_sets, all_rows, bad_texts, borne, came_about, chain,
                       drawn_row_lists, filled_with, state, wide)
from wapentake import crowds
from wapentake.crowds import common, quarrel, voice
from wapentake.errors import BadRow, BadWeight, Even, NotBorne
from wapentake.table import Table

WEIGHTS = (1, 2, 3, 4, 7, FORTY, FORTY + 1, SIXTY)


def unlike(one, two):
    return sum(a != b for a, b in zip(one, two))


def quarrel_of(crowd, row):
    return sum(unlike(one, row) for one, weight in crowd for each in range(weight))


def heavy_quarrel_of(crowd, row):
    """The same as quarrel_of, for weights that can't be counted one by one."""
    return sum(weight for one, weight in crowd for a, b in zip(one, row) if a != b)


def gone_for(crowd, questions):
    """By the words of [15], where the weights' sum is odd."""
    told = ""
    for at in range(questions):
        weights = {sign: sum(weight for row, weight in crowd if row[at] == sign) for sign in "ny"}
        told += max("ny", key=weights.get)
    return told


def drawn_crowds(rulings, many, seed):
    """Always the same crowds of an odd weight, some with one row twice."""
    draw = random.Random(seed)
    told = []
    while len(told) < many:
        crowd = [(draw.choice(rulings), draw.choice(WEIGHTS)) for each in range(draw.randint(1, 6))]
        if sum(weight for row, weight in crowd) % 2:
            told.append(crowd)
    return told


class TestInterface(TableCase):
    def test_the_arguments_are_called_as_told(self):
        self.assert_arguments(crowds, {"quarrel": "crowd row", "voice": "table crowd", "common": "table"})


class TestQuarrel(TableCase):
    def test_written_examples(self):
        self.assertEqual(quarrel([("yyn", 2), ("nyn", 5)], "yyy"), 2 * 1 + 5 * 2)
        self.assertEqual(quarrel([("yyn", 2), ("yyn", 3), ("nnn", 1)], "yyn"), 2)
        self.assertEqual(quarrel([("y", FORTY)], "n"), FORTY)
        self.assertEqual(quarrel([("yyyy", SIXTY)], "nnnn"), 4 * SIXTY)

    def test_nobody_quarrels_in_a_crowd_of_none(self):
        for row in ("n", "y", "ynynynynynyn"):
            self.assertEqual(quarrel([], row), 0)

    def test_the_sum_over_the_pairs(self):
        for questions in (1, 2, 3):
            rows = all_rows(questions)
            for chosen in itertools.product(rows, repeat=2):
                crowd = list(zip(chosen, (3, 1)))
                for row in rows:
                    self.assertEqual(quarrel(crowd, row), quarrel_of(crowd, row))

    def test_any_weights(self):
        self.assertEqual(quarrel([("yy", 0), ("yn", -3), ("nn", -FORTY)], "yy"), -3 - 2 * FORTY)
        self.assertEqual(quarrel([("yy", 0)], "nn"), 0)

    def test_the_rows_need_be_no_rulings_and_the_weights_not_odd(self):
        self.assertEqual(quarrel([("nny", 2), ("ynn", 4)], "nyy"), 2 + 4 * 3)

    def test_the_crowd_stays(self):
        crowd = [("yyn", 2), ("nyn", 5)]
        for each in range(2):
            self.assertEqual(quarrel(crowd, "yyn"), 5)
            self.assertEqual(crowd, [("yyn", 2), ("nyn", 5)])


class TestVoice(TableCase):
    def assert_goes(self, table, crowd, rulings):
        questions = table.questions
        told = voice(table, crowd)
        self.assertEqual(told, gone_for(crowd, questions))
        self.assertIn(told, rulings)
        least = heavy_quarrel_of(crowd, told)
        self.assertEqual([row for row in all_rows(questions) if heavy_quarrel_of(crowd, row) <= least], [told])

    def test_written_examples(self):
        table = filled_with(3, SQUARE)
        self.assertEqual(voice(table, [("yyy", 1)]), "yyy")
        self.assertEqual(voice(table, [("ynn", 1), ("nyn", 1), ("yyy", 1)]), "yyn")
        self.assertEqual(voice(table, [("ynn", 1), ("nyn", 1), ("yyy", 3)]), "yyy")
        self.assertEqual(voice(table, [("nnn", 2), ("yyy", 3)]), "yyy")
        self.assertEqual(voice(table, [("nnn", 2), ("yyy", 2), ("nyn", 1)]), "nyn")

    def test_all_crowds_of_three_rulings(self):
        for rows in (SQUARE, ["nny", "ynn", "nyy"], chain(3), all_rows(3)):
            table, rulings = filled_with(3, rows), came_about(rows)
            for chosen in itertools.product(rulings, repeat=3):
                self.assert_goes(table, [(row, 1) for row in chosen], rulings)

    def test_small_tables_with_any_weights(self):
        for questions in (1, 2, 3):
            for number, rows in enumerate(all_row_sets(questions)[::3]):
                table, rulings = filled_with(questions, rows), came_about(rows)
                for crowd in drawn_crowds(rulings, 4, seed=300 + number):
                    self.assert_goes(table, crowd, rulings)

    def test_larger_tables_with_any_weights(self):
        for questions in (4, 5, 7):
            for number, rows in enumerate(drawn_row_lists(questions, 10, 7, seed=310 + questions)):
                table, rulings = filled_with(questions, rows), borne(rows, questions)
                for crowd in drawn_crowds(rulings, 4, seed=320 + number):
                    self.assert_goes(table, crowd, rulings)

    def test_a_ruling_that_is_nobodys_row_may_be_in_a_crowd(self):
        table = filled_with(3, ["ynn", "nyn", "nny"])
        self.assertEqual(voice(table, [("nnn", 1)]), "nnn")
        self.assertEqual(voice(table, [("nnn", 1), ("ynn", 1), ("nny", 1)]), "nnn")

    def test_the_same_row_twice(self):
        table = filled_with(2, all_rows(2))
        self.assertEqual(voice(table, [("yn", 2), ("ny", 3), ("yn", 2)]), "yn")
        self.assertEqual(voice(table, [("yn", FORTY), ("ny", 2 * FORTY + 1), ("yn", FORTY)]), "ny")
        self.assertEqual(voice(table, [("yn", FORTY), ("ny", 2 * FORTY - 1), ("yn", FORTY)]), "yn")

    def test_it_goes_by_the_weight_and_not_by_the_tables_rows(self):
        table = filled_with(1, ["y", "y", "y", "n"])
        self.assertEqual(voice(table, [("n", 1)]), "n")
        self.assertEqual(voice(table, [("n", 2), ("y", 1)]), "n")

    def test_what_is_told_is_told_by_the_rows_of_then(self):
        table = filled_with(2, ["yn"])
        self.assert_refused(NotBorne, table, voice, table, [("ny", 1)])
        table.add("ny")
        self.assertEqual(voice(table, [("ny", 1)]), "ny")
        table.take("yn")
        self.assert_refused(NotBorne, table, voice, table, [("yn", 1)])

    def test_nothing_is_changed(self):
        table = filled_with(3, SQUARE)
        self.assert_own(table, voice, [("ynn", 1), ("nyn", 1), ("yyy", 1)])

    def test_twelve_questions_are_answered_soon(self):
        for rows in (wide(12), chain(12), wide(12) * 18):
            table = filled_with(12, rows)
            crowd = [(row, SIXTY) for row in (rows * 20)[:199]]
            self.assertEqual(self.assert_soon(voice, table, crowd), gone_for(crowd, 12))


class TestVoiceRefused(TableCase):
    def setUp(self):
        self.table = filled_with(3, SQUARE)

    def refused(self, error, crowd):
        self.assert_refused(error, self.table, voice, self.table, crowd)

    def test_bad_rows(self):
        for text in bad_texts("yyn", stroke=False):
            self.refused(BadRow, [(text, 1)])
            self.refused(BadRow, [("yyn", 1), (text, 1)])

    def test_bad_weights(self):
        for weight in (0, -1, -2, -FORTY, -SIXTY):
            self.refused(BadWeight, [("yyn", weight)])
            self.refused(BadWeight, [("yyn", 3), ("nnn", weight)])

    def test_rows_that_are_no_rulings(self):
        for row in all_rows(3):
            if row in SQUARE:
                self.assertEqual(voice(self.table, [(row, 1)]), row)
            else:
                self.refused(NotBorne, [(row, 1)])
                self.refused(NotBorne, [("nnn", 1), ("yyn", 1), (row, 1)])

    def test_even_weights(self):
        self.refused(Even, [])
        self.refused(Even, [("yyn", 2)])
        self.refused(Even, [("yyn", 1), ("yyn", 1)])
        self.refused(Even, [("yyn", FORTY), ("nnn", SIXTY), ("yyy", 1)])

    def test_the_refusal_told_first_within_a_pair(self):
        self.refused(BadRow, [("yy", 0)])
        self.refused(BadRow, [("y-n", -1)])
        self.refused(BadWeight, [("nny", 0)])
        self.refused(NotBorne, [("nny", 2)])

    def test_each_pair_is_looked_at_whole_in_its_turn(self):
        bad, light, stranger, fine = ("yy", 1), ("yyn", 0), ("nny", 1), ("yyn", 1)
        errors = {bad: BadRow, light: BadWeight, stranger: NotBorne}
        for one, two in itertools.permutations(errors, 2):
            self.refused(errors[one], [one, two])
            self.refused(errors[one], [fine, one, two])
            self.refused(errors[one], [fine, one, fine, two])

    def test_even_is_behind_all_else(self):
        for pair, error in ((("yy", 2), BadRow), (("yyn", 0), BadWeight), (("nny", 2), NotBorne)):
            self.refused(error, [pair])
            self.refused(error, [("yyn", 2), pair])

    def test_without_rows(self):
        table = Table(3)
        self.assert_refused(Even, table, voice, table, [])
        self.assert_refused(NotBorne, table, voice, table, [("nnn", 1)])
        self.assert_refused(BadWeight, table, voice, table, [("nnn", 0)])


class TestCommon(TableCase):
    def test_without_rows(self):
        for questions in (1, 2, 12):
            self.assertEqual(common(Table(questions)), "-" * questions)

    def test_written_examples(self):
        self.assertEqual(common(filled_with(3, ["yyn"])), "yyn")
        self.assertEqual(common(filled_with(3, ["yyn", "ynn"])), "y-n")
        self.assertEqual(common(filled_with(3, ["yyn", "ynn", "nny"])), "ynn")
        self.assertEqual(common(filled_with(3, ["yyn", "ynn", "nny", "nyy"])), "---")
        self.assertEqual(common(filled_with(2, ["yn", "yn", "yy", "nn"])), "yn")

    def test_even_and_odd_numbers_of_rows(self):
        for questions in (1, 2, 3):
            for many in (1, 2, 3, 4):
                for rows in itertools.combinations_with_replacement(all_rows(questions), many):
                    told = ""
                    for at in range(questions):
                        yes = sum(row[at] == "y" for row in rows)
                        told += "y" if yes > many - yes else "n" if yes < many - yes else "-"
                    self.assertEqual(common(filled_with(questions, rows)), told)

    def test_of_an_odd_number_of_rows_it_is_the_voice_of_them(self):
        for questions in (4, 9, 12):
            for rows in drawn_row_lists(questions, 12, 9, seed=340 + questions):
                if len(rows) % 2:
                    table = filled_with(questions, rows)
                    self.assertEqual(common(table), voice(table, [(row, 1) for row in rows]))

    def test_a_changed_table_is_told_anew(self):
        table = filled_with(2, ["yn", "yn", "ny"])
        self.assertEqual(common(table), "yn")
        table.take("yn")
        self.assertEqual(common(table), "--")
        table.take("yn")
        self.assertEqual(common(table), "ny")

    def test_nothing_is_changed(self):
        table = filled_with(3, SQUARE)
        before = state(table)
        self.assertEqual(common(table), common(table))
        self.assertEqual(state(table), before)

    def test_two_hundred_rows_are_answered_soon(self):
        table = filled_with(12, (wide(12) * 20)[:200])
        self.assertEqual(self.assert_soon(common, table), "-" * 12)


if __name__ == "__main__":
    unittest.main()
