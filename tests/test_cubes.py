"""Bundles that can be turned in whatever choice: points [2], [3], [4], [14] and wapentake/cubes.py."""

import itertools
import random
import unittest

from reference import (FORTY, SIXTY, SQUARE, TableCase, all_row_sets, all_rows, borne, bundles_of, came_about,
                       chain, crossing_of, drawn_row_lists, filled_with, flipped, wide)
from wapentake import cubes
from wapentake.cubes import free_at
from wapentake.errors import Empty, NoBundle, Twice
from wapentake.table import Table


def choices(things):
    return [chosen for many in range(len(things) + 1) for chosen in itertools.combinations(things, many)]


class CubesCase(TableCase):
    def assert_free(self, rows, questions, numbers, found):
        """That what is told of these numbers holds for the rulings found."""
        told = free_at(filled_with(questions, rows), list(numbers))
        self.assertIs(type(told), tuple)
        crossed = crossing_of(rows, questions)
        barred = [pair for pair in itertools.combinations(sorted(numbers), 2) if pair not in crossed]
        if barred:
            self.assertIn(told, [("bar", k, l) for k, l in barred], (rows, numbers))
            return
        word, row = told
        self.assertEqual(word, "row")
        bundles = bundles_of(rows, questions)
        for chosen in choices(numbers):
            turned = flipped(row, [q for number in chosen for q in bundles[number]])
            self.assertIn(turned, found, (rows, numbers, row, chosen))

    def assert_all_choices(self, rows, questions):
        """That each choice of bundles is answered rightly, in whatever order it is handed in."""
        found = set(came_about(rows))
        draw = random.Random(19)
        for numbers in choices(range(len(bundles_of(rows, questions)))):
            self.assert_free(rows, questions, numbers, found)
            self.assert_free(rows, questions, draw.sample(numbers, len(numbers)), found)


class TestFreeAt(CubesCase):
    def test_the_arguments_are_called_as_told(self):
        self.assert_arguments(cubes, {"free_at": "table numbers"})

    def test_written_examples(self):
        # Questions 0 and 1 cross, and 2 can be said yes to from one corner alone.
        table = filled_with(3, SQUARE)
        self.assertIn(free_at(table, []), [("row", row) for row in SQUARE])
        self.assertIn(free_at(table, [0, 1]), [("row", row) for row in SQUARE[:4]])
        self.assertIn(free_at(table, [1, 0]), [("row", row) for row in SQUARE[:4]])
        self.assertIn(free_at(table, [2]), [("row", "yyn"), ("row", "yyy")])
        self.assertEqual(free_at(table, [0, 2]), ("bar", 0, 2))
        self.assertEqual(free_at(table, [2, 1]), ("bar", 1, 2))
        self.assertIn(free_at(table, [2, 1, 0]), [("bar", 0, 2), ("bar", 1, 2)])

    def test_no_bundle_is_free_at_any_ruling(self):
        for questions in range(1, 6):
            for rows in drawn_row_lists(questions, 10, 6, seed=140 + questions):
                word, row = free_at(filled_with(questions, rows), [])
                self.assertEqual(word, "row")
                self.assertIn(row, came_about(rows))

    def test_one_row(self):
        self.assertEqual(free_at(filled_with(3, ["yny"]), []), ("row", "yny"))

    def test_one_bundle(self):
        for rows in drawn_row_lists(12, 12, 9, seed=150):
            found = set(borne(rows, 12))
            for number in range(len(bundles_of(rows, 12))):
                self.assert_free(rows, 12, [number], found)

    def test_one_wide_bundle(self):
        rows = ["ynnynyyynnyn", "nyynynnnyyny"]
        self.assertIn(free_at(filled_with(12, rows), [0]), [("row", row) for row in rows])

    def test_all_choices_of_bundles_of_all_tables_of_up_to_three_questions(self):
        for questions in (1, 2, 3):
            for rows in all_row_sets(questions):
                self.assert_all_choices(rows, questions)

    def test_all_choices_of_bundles_of_four_and_five_questions(self):
        for questions in (4, 5):
            for rows in drawn_row_lists(questions, 50, 9, seed=160 + questions):
                self.assert_all_choices(rows, questions)
            self.assert_all_choices(chain(questions), questions)

    def test_tails_behind_all_corners_of_a_cube(self):
        # Four questions that all cross, and four more, each said yes to behind one corner alone: the told ruling
        # is to keep clear of all these tails.
        rows = []
        for corner in all_rows(4):
            rows.append(corner + "nnnn")
        for at, corner in enumerate(("yyyy", "nnnn", "ynyn", "nyny")):
            rows.append(corner + flipped("nnnn", [at]))
        found = set(borne(rows, 8))
        for numbers in ([0, 1, 2, 3], [3, 1, 0, 2], [0, 3], [1], [4], [6], [4, 5], [0, 1, 2, 3, 4]):
            self.assert_free(rows, 8, numbers, found)
        word, row = free_at(filled_with(8, rows), [0, 1, 2, 3])
        self.assertEqual((word, row[4:]), ("row", "nnnn"))

    def test_drawn_rows_of_twelve_questions(self):
        draw = random.Random(20)
        for rows in drawn_row_lists(12, 30, 14, seed=170):
            found = set(borne(rows, 12))
            many = len(bundles_of(rows, 12))
            crossed = crossing_of(rows, 12)
            for each in range(8):
                numbers = draw.sample(range(many), min(many, draw.randint(0, 5)))
                self.assert_free(rows, 12, numbers, found)
                # Those of the numbers that all cross, too.
                clear = []
                for number in draw.sample(range(many), many):
                    if all((min(k, number), max(k, number)) in crossed for k in clear):
                        clear.append(number)
                self.assert_free(rows, 12, clear, found)

    def test_twelve_bundles_that_all_cross_are_answered_soon(self):
        table = filled_with(12, wide(12))
        for numbers in (list(range(12)), list(range(11, -1, -1)), [5], [11, 0]):
            self.assertEqual(self.assert_soon(free_at, table, numbers)[0], "row")
            self.assert_free(wide(12), 12, numbers, set(all_rows(12)))

    def test_a_chain_of_twelve(self):
        table = filled_with(12, chain(12))
        for number in range(12):
            lower = "y" * number + "n" * (12 - number)
            self.assertIn(free_at(table, [number]), [("row", lower), ("row", flipped(lower, [number]))])
        for k, l in itertools.combinations(range(12), 2):
            self.assertEqual(free_at(table, [l, k]), ("bar", k, l))
        word, k, l = self.assert_soon(free_at, table, list(range(12)))
        self.assertEqual(word, "bar")
        self.assertTrue(0 <= k < l < 12)

    def test_behind_rows_put_in_and_taken_out(self):
        table = filled_with(2, ["yn", "ny", "nn"])
        self.assertEqual(free_at(table, [0, 1]), ("bar", 0, 1))
        table.add("yy")
        self.assertEqual(free_at(table, [0, 1])[0], "row")
        table.take("nn")
        self.assertEqual(free_at(table, [0, 1]), ("bar", 0, 1))
        table.take("yn")
        self.assertIn(free_at(table, [0]), [("row", "yy"), ("row", "ny")])
        self.assert_refused(NoBundle, table, free_at, table, [1])


class TestRefusals(CubesCase):
    def test_numbers_that_no_bundle_has(self):
        table = filled_with(3, SQUARE)
        for number in (-1, -2, -3, -4, 3, 4, 12, FORTY, -FORTY, SIXTY, -SIXTY):
            for numbers in ([number], [0, number], [number, 0, 0], [0, 2, number], [number, number], [0, number, 0]):
                with self.subTest(numbers=numbers):
                    self.assert_refused(NoBundle, table, free_at, table, numbers)

    def test_numbers_that_are_told_twice(self):
        table = filled_with(3, SQUARE)
        for numbers in ([0, 0], [2, 2], [0, 1, 0], [0, 2, 2], [2, 1, 0, 1], [1, 1, 1]):
            with self.subTest(numbers=numbers):
                self.assert_refused(Twice, table, free_at, table, numbers)

    def test_each_number_is_looked_at_whole_in_turn(self):
        table = filled_with(3, SQUARE)
        for wrong in (-1, 3, FORTY):
            self.assert_refused(Twice, table, free_at, table, [0, 0, wrong])
            self.assert_refused(Twice, table, free_at, table, [2, 1, 2, wrong, wrong])
            self.assert_refused(NoBundle, table, free_at, table, [wrong, 1, 1])
            self.assert_refused(NoBundle, table, free_at, table, [1, wrong, 1])

    def test_bundles_are_fewer_than_questions(self):
        table = filled_with(12, ["ynnynyyynnyn", "nyynynnnyyny"])
        self.assert_refused(NoBundle, table, free_at, table, [1])
        self.assert_refused(NoBundle, table, free_at, table, [11])
        settled = filled_with(3, ["yny", "yny"])
        self.assert_refused(NoBundle, settled, free_at, settled, [0])

    def test_a_table_without_rows(self):
        for questions in (1, 2, 12):
            table = Table(questions)
            self.assert_refused(Empty, table, free_at, table, [])
            for numbers in ([0], [0, 0], [-1], [FORTY]):
                self.assert_refused(NoBundle, table, free_at, table, numbers)
        table = filled_with(2, ["yn"])
        table.take("yn")
        self.assert_refused(Empty, table, free_at, table, [])

    def test_two_hundred_numbers(self):
        table = filled_with(12, wide(12))
        self.assert_refused(Twice, table, free_at, table, list(range(12)) * 16)
        self.assert_refused(NoBundle, table, free_at, table, list(range(200)))


class TestOwn(CubesCase):
    def test_asking_changes_neither_the_table_nor_the_list(self):
        for numbers in ([], [2], [1, 0], [2, 1, 0]):
            self.assert_own(filled_with(3, SQUARE), free_at, numbers)

    def test_tables_have_nothing_to_do_with_one_another(self):
        one, two = filled_with(2, ["yn", "ny", "nn"]), filled_with(2, ["yn", "ny", "nn"])
        two.add("yy")
        self.assertEqual(free_at(one, [0, 1]), ("bar", 0, 1))
        self.assertEqual(free_at(two, [0, 1])[0], "row")


if __name__ == "__main__":
    unittest.main()
