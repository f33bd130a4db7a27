"""Tables: points [2], [3], [4], [5], [7] and the interface's section of wapentake/table.py."""

import inspect
import itertools
import unittest

from reference import FORTY, SIXTY, TableCase, bad_texts, filled_with, state
from wapentake.errors import BadCount, BadRow, BadSign, NoQuestion, NoRow
from wapentake.table import Table

NO_ANSWERS = ("", "Y", "N", "-", " ", "\n", "0", "yy", "yn", "y ", "y\n", "x")
SOME_ROWS = ["yyn", "nyy", "yyn", "nnn", "yyn", "nyy", "yny"]


def counted(rows, q, a, r, b):
    return len([row for row in rows if row[q] == a and row[r] == b])


def all_pairs(questions):
    return itertools.product(range(questions), "ny", range(questions), "ny")


class RowsCase(TableCase):
    def assert_holds(self, table, rows):
        """That a table answers for just these rows, in whatever order they came."""
        self.assertEqual(table.many(), len(rows))
        self.assertEqual(table.rows(), sorted(rows))
        for pair in all_pairs(table.questions):
            self.assertEqual(table.count(*pair), counted(rows, *pair), pair)


class TestMaking(RowsCase):
    def test_the_arguments_are_called_as_told(self):
        self.assertEqual(list(inspect.signature(Table).parameters), ["questions"])
        self.assert_arguments(Table(1), {
            "add": "row", "take": "row", "many": "", "rows": "", "count": "q a r b", "twin": ""})

    def test_a_new_table_has_no_rows(self):
        for questions in range(1, 13):
            with self.subTest(questions):
                table = Table(questions)
                self.assertEqual(table.questions, questions)
                self.assert_holds(table, [])

    def test_counts_out_of_bounds(self):
        for questions in (0, -1, -12, 13, 14, 1000, FORTY, -FORTY, SIXTY, -SIXTY):
            with self.subTest(questions), self.assertRaises(BadCount):
                Table(questions)


class TestAddAndTake(RowsCase):
    def test_both_tell_nothing(self):
        table = Table(2)
        self.assertIsNone(table.add("yn"))
        self.assertIsNone(table.take("yn"))

    def test_each_step(self):
        table = Table(3)
        held = []
        for row in SOME_ROWS:
            table.add(row)
            held.append(row)
            self.assert_holds(table, held)
        for row in ("nyy", "yyn", "nnn", "yyn", "yny", "yyn", "nyy"):
            table.take(row)
            held.remove(row)
            self.assert_holds(table, held)
        self.assertEqual(table.rows(), [])

    def test_in_and_out_by_turns(self):
        table = Table(2)
        held = []
        for deed, row in (("add", "yn"), ("take", "yn"), ("add", "yn"), ("add", "yn"), ("take", "yn"),
                          ("add", "ny"), ("take", "yn"), ("add", "ny"), ("take", "ny"), ("add", "yy")):
            if deed == "add":
                table.add(row)
                held.append(row)
            else:
                table.take(row)
                held.remove(row)
            self.assert_holds(table, held)

    def test_one_question(self):
        table = filled_with(1, ["y", "n", "y"])
        self.assertEqual(table.rows(), ["n", "y", "y"])
        self.assertEqual(table.count(0, "y", 0, "y"), 2)
        self.assertEqual(table.count(0, "n", 0, "n"), 1)
        self.assertEqual(table.count(0, "y", 0, "n"), 0)
        self.assertEqual(table.count(0, "n", 0, "y"), 0)

    def test_written_counts_of_two_questions(self):
        table = filled_with(3, SOME_ROWS)
        self.assertEqual(table.count(0, "y", 1, "y"), 3)
        self.assertEqual(table.count(1, "y", 0, "y"), 3)
        self.assertEqual(table.count(0, "n", 2, "y"), 2)
        self.assertEqual(table.count(0, "y", 1, "n"), 1)
        self.assertEqual(table.count(1, "n", 1, "n"), 2)
        self.assertEqual(table.count(1, "n", 1, "y"), 0)

    def test_two_hundred_rows_of_twelve_questions(self):
        held = [format(at * 37 % 4096, "012b").replace("0", "n").replace("1", "y") for at in range(150)]
        held += held[:50]
        table = filled_with(12, held)
        self.assert_holds(table, held)
        for row in held[100:]:
            table.take(row)
        self.assert_holds(table, held[:100])

    def test_the_same_row_two_hundred_times(self):
        table = filled_with(2, ["ny"] * 200)
        self.assert_holds(table, ["ny"] * 200)
        for left in range(199, -1, -1):
            table.take("ny")
            self.assertEqual(table.many(), left)
        self.assert_refused(NoRow, table, table.take, "ny")


class TestRefusals(RowsCase):
    def test_add_refuses_texts_that_are_no_rows(self):
        for table in (Table(3), filled_with(3, SOME_ROWS)):
            for text in bad_texts("yyn", stroke=False):
                with self.subTest(text[:9]):
                    self.assert_refused(BadRow, table, table.add, text)

    def test_take_refuses_texts_that_are_no_rows_ahead_of_rows_that_are_not_in(self):
        for table in (Table(3), filled_with(3, SOME_ROWS)):
            for text in bad_texts("yyn", stroke=False):
                with self.subTest(text[:9]):
                    self.assert_refused(BadRow, table, table.take, text)

    def test_take_refuses_rows_that_are_not_in(self):
        table = filled_with(3, SOME_ROWS)
        for row in ("yyy", "nny", "ynn", "nyn"):
            with self.subTest(row):
                self.assert_refused(NoRow, table, table.take, row)
        empty = Table(3)
        self.assert_refused(NoRow, empty, empty.take, "yyn")

    def test_take_refuses_a_row_that_is_in_no_longer(self):
        table = filled_with(2, ["yn", "yn", "nn"])
        table.take("yn")
        table.take("yn")
        self.assert_refused(NoRow, table, table.take, "yn")
        self.assert_holds(table, ["nn"])
        table.add("yn")
        self.assert_holds(table, ["nn", "yn"])

    def test_count_refuses_numbers_ahead_of_signs(self):
        table = filled_with(3, SOME_ROWS)
        for number in (-1, -2, -3, 3, 4, 12, FORTY, -FORTY, SIXTY, -SIXTY):
            for a, b in (("y", "n"), ("?", "n"), ("y", "?"), ("", "yy")):
                with self.subTest(number=number, a=a, b=b):
                    self.assert_refused(NoQuestion, table, table.count, number, a, 0, b)
                    self.assert_refused(NoQuestion, table, table.count, 2, a, number, b)
                    self.assert_refused(NoQuestion, table, table.count, number, a, number, b)

    def test_count_refuses_either_sign(self):
        for table in (Table(3), filled_with(3, SOME_ROWS)):
            for sign in NO_ANSWERS:
                with self.subTest(sign):
                    self.assert_refused(BadSign, table, table.count, 0, sign, 2, "y")
                    self.assert_refused(BadSign, table, table.count, 0, "n", 2, sign)
                    self.assert_refused(BadSign, table, table.count, 1, sign, 1, sign)

    def test_count_at_the_edges_of_twelve(self):
        table = filled_with(12, ["y" * 12])
        self.assertEqual(table.count(0, "y", 11, "y"), 1)
        self.assertEqual(table.count(11, "y", 0, "n"), 0)
        self.assert_refused(NoQuestion, table, table.count, 12, "y", 0, "y")
        self.assert_refused(NoQuestion, table, table.count, 0, "y", 12, "y")


class TestApart(RowsCase):
    def test_asking_changes_nothing(self):
        table = filled_with(3, SOME_ROWS)
        first = state(table)
        table.twin()
        self.assertEqual(state(table), first)
        empty = Table(3)
        self.assertEqual(state(empty), state(empty))

    def test_a_told_list_is_the_askers_own(self):
        table = filled_with(3, SOME_ROWS)
        for change in (list.clear, list.reverse, lambda told: told.append("yyy"), lambda told: told.pop()):
            change(table.rows())
            self.assert_holds(table, SOME_ROWS)
        kept = table.rows()
        table.add("yyy")
        self.assertEqual(kept, sorted(SOME_ROWS))

    def test_a_twin_has_the_same_rows(self):
        for rows in ([], ["yyn"], SOME_ROWS):
            table = filled_with(3, rows)
            twin = table.twin()
            self.assertIs(type(twin), Table)
            self.assertEqual(twin.questions, 3)
            self.assert_holds(twin, rows)

    def test_a_twin_and_the_first_have_nothing_to_do_with_one_another(self):
        table = filled_with(3, SOME_ROWS)
        twin = table.twin()
        twin.add("yyy")
        twin.take("nnn")
        self.assert_holds(table, SOME_ROWS)
        table.take("yyn")
        table.add("ynn")
        held = list(SOME_ROWS)
        held.remove("nnn")
        self.assert_holds(twin, held + ["yyy"])
        held = list(SOME_ROWS)
        held.remove("yyn")
        self.assert_holds(table, held + ["ynn"])

    def test_twins_of_an_empty_table_and_of_a_twin(self):
        table = Table(2)
        twin = table.twin()
        again = twin.twin()
        table.add("yy")
        twin.add("nn")
        self.assert_holds(table, ["yy"])
        self.assert_holds(twin, ["nn"])
        self.assert_holds(again, [])

    def test_two_tables_made_apart(self):
        one, two = Table(2), Table(2)
        one.add("yn")
        self.assert_holds(two, [])
        two.add("ny")
        two.add("yn")
        one.take("yn")
        self.assert_holds(one, [])
        self.assert_holds(two, ["ny", "yn"])


if __name__ == "__main__":
    unittest.main()
