"""Bars, settled questions and bundles: points [2], [3], [4], [8], [9] and the section of wapentake/bonds.py."""

import itertools
import unittest

from reference import (TableCase, all_row_sets, all_rows, answers_to, bundles_of, chain, crossing_of, drawn_row_lists,
                       filled_with, wide)
from wapentake import bonds
from wapentake.bonds import bars, bundles, crossing, settled
from wapentake.table import Table

ASKED = (bars, settled, bundles, crossing)


def bars_of(rows, questions):
    """All bars in the told order, by the words of point [8]."""
    given = {(q, row[q], r, row[r]) for row in rows for q in range(questions) for r in range(questions)}
    return [(q, a, r, b) for q in range(questions) for r in range(questions) if q < r
            for a in ("n", "y") for b in ("n", "y") if (q, a, r, b) not in given]


def settled_of(rows, questions):
    return [(q, rows[0][q]) for q in range(questions) if rows and len(answers_to(rows, q)) == 1]


def told_bundles_of(rows, questions):
    """Each bundle with the answers of the first row that says yes to its lowest question."""
    told = []
    for bundle in bundles_of(rows, questions):
        row = [row for row in rows if row[bundle[0]] == "y"][0]
        told.append([(q, row[q]) for q in bundle])
    return told


class BondsCase(TableCase):
    def assert_bonds(self, table, rows):
        many = table.questions
        self.assertEqual(bars(table), bars_of(rows, many), rows)
        self.assertEqual(settled(table), settled_of(rows, many), rows)
        self.assertEqual(bundles(table), told_bundles_of(rows, many), rows)
        self.assertEqual(crossing(table), crossing_of(rows, many), rows)


class TestBonds(BondsCase):
    def test_the_arguments_are_called_as_told(self):
        self.assert_arguments(bonds, {"bars": "table", "settled": "table", "bundles": "table", "crossing": "table"})

    def test_kinds(self):
        table = filled_with(4, ["ynyn", "nyyn", "ynyy", "nyyy"])
        for told in (bars(table), settled(table), crossing(table), *bundles(table)):
            self.assertIs(type(told), list)
            self.assertNotEqual(told, [])
            for thing in told:
                self.assertIs(type(thing), tuple)
        self.assertIs(type(bundles(table)), list)

    def test_written_example(self):
        # 0 and 2 go unlike, 1 is settled, 3 crosses both, 4 is barred from 3 by one pair of answers.
        table = filled_with(5, ["nyynn", "yynny", "nyyyy", "yynyy"])
        self.assertEqual(settled(table), [(1, "y")])
        self.assertEqual(bundles(table), [[(0, "y"), (2, "n")], [(3, "y")], [(4, "y")]])
        self.assertEqual(crossing(table), [(0, 1)])
        self.assertEqual(bars(table), [
            (0, "n", 1, "n"), (0, "y", 1, "n"),
            (0, "n", 2, "n"), (0, "y", 2, "y"),
            (0, "y", 4, "n"),
            (1, "n", 2, "n"), (1, "n", 2, "y"), (1, "n", 3, "n"), (1, "n", 3, "y"), (1, "n", 4, "n"), (1, "n", 4, "y"),
            (2, "n", 4, "n"),
            (3, "y", 4, "n")])

    def test_two_questions_that_go_alike_and_unlike(self):
        self.assertEqual(bundles(filled_with(2, ["yy", "nn"])), [[(0, "y"), (1, "y")]])
        self.assertEqual(bundles(filled_with(2, ["yn", "ny"])), [[(0, "y"), (1, "n")]])
        self.assertEqual(bundles(filled_with(2, ["yn", "ny", "nn"])), [[(0, "y")], [(1, "y")]])
        self.assertEqual(crossing(filled_with(2, ["yn", "ny", "nn"])), [])
        self.assertEqual(crossing(filled_with(2, ["yn", "ny", "nn", "yy"])), [(0, 1)])

    def test_without_rows(self):
        for questions in range(1, 13):
            with self.subTest(questions):
                table = Table(questions)
                pairs = itertools.combinations(range(questions), 2)
                wanted = [(q, a, r, b) for q, r in pairs for a in "ny" for b in "ny"]
                self.assertEqual(bars(table), wanted)
                self.assertEqual(settled(table), [])
                self.assertEqual(bundles(table), [])
                self.assertEqual(crossing(table), [])

    def test_one_row(self):
        for questions in range(1, 13):
            for row in ("y" * questions, "n" * questions, ("yn" * 6)[:questions]):
                with self.subTest(row):
                    table = filled_with(questions, [row])
                    self.assertEqual(settled(table), list(enumerate(row)))
                    self.assertEqual(bundles(table), [])
                    self.assertEqual(crossing(table), [])
                    self.assertEqual(bars(table), bars_of([row], questions))

    def test_all_choices_of_rows_of_up_to_three_questions(self):
        for questions in (1, 2, 3):
            for rows in all_row_sets(questions):
                self.assert_bonds(filled_with(questions, rows), rows)

    def test_drawn_rows_of_four_to_twelve_questions(self):
        for questions in range(4, 13):
            for rows in drawn_row_lists(questions, 40, 9, seed=questions):
                self.assert_bonds(filled_with(questions, rows), rows)

    def test_a_row_counts_however_often_it_is_in(self):
        for rows in drawn_row_lists(5, 20, 6, seed=50):
            once = filled_with(5, sorted(set(rows)))
            often = filled_with(5, rows + rows[::-1] + rows[:1] * 9)
            for asked in ASKED:
                self.assertEqual(asked(once), asked(often))

    def test_all_rows(self):
        for questions in range(1, 8):
            table = filled_with(questions, all_rows(questions))
            self.assertEqual(bars(table), [])
            self.assertEqual(settled(table), [])
            self.assertEqual(bundles(table), [[(q, "y")] for q in range(questions)])
            self.assertEqual(crossing(table), list(itertools.combinations(range(questions), 2)))


class TestFewRowsThatBindMuch(BondsCase):
    def test_two_rows_that_are_unlike_throughout(self):
        table = filled_with(12, ["ynnynyyynnyn", "nyynynnnyyny"])
        self.assertEqual(bundles(table), [list(enumerate("ynnynyyynnyn"))])
        self.assertEqual(settled(table), [])
        self.assertEqual(crossing(table), [])
        # The answers are those of the row that says yes, also where it was put in behind.
        table = filled_with(12, ["nyynynnnyyny", "ynnynyyynnyn"])
        self.assertEqual(bundles(table), [list(enumerate("ynnynyyynnyn"))])

    def test_two_rows_that_are_unlike_at_some_questions(self):
        table = filled_with(12, ["yyyyyyyyyyyy", "yynyynyynyyn"])
        self.assertEqual(bundles(table), [[(2, "y"), (5, "y"), (8, "y"), (11, "y")]])
        self.assertEqual(settled(table), [(q, "y") for q in (0, 1, 3, 4, 6, 7, 9, 10)])

    def test_four_rows_and_two_bundles_that_cross(self):
        table = filled_with(12, ["yyyyyynnnnnn", "yyyyyyyyyyyy", "nnnnnnnnnnnn", "nnnnnnyyyyyy"])
        self.assertEqual(bundles(table), [[(q, "y") for q in range(6)], [(q, "y") for q in range(6, 12)]])
        self.assertEqual(crossing(table), [(0, 1)])

    def test_bundles_are_in_the_order_of_their_lowest_questions(self):
        table = filled_with(6, ["nnnyyn", "nyynnn", "yyyyyy", "ynnnny"])
        self.assertEqual(bundles(table), [[(0, "y"), (5, "y")], [(1, "y"), (2, "y")], [(3, "y"), (4, "y")]])
        self.assertEqual(crossing(table), [(0, 1), (0, 2), (1, 2)])
        # Where the lowest question is settled, the bundle begins behind it.
        table = filled_with(6, ["nnnyyn", "nyynnn"])
        self.assertEqual(bundles(table), [[(1, "y"), (2, "y"), (3, "n"), (4, "n")]])
        self.assertEqual(settled(table), [(0, "n"), (5, "n")])

    def test_a_chain(self):
        table = filled_with(12, chain(12))
        self.assertEqual(bundles(table), [[(q, "y")] for q in range(12)])
        self.assertEqual(crossing(table), [])
        self.assertEqual(bars(table), [(q, "n", r, "y") for q, r in itertools.combinations(range(12), 2)])

    def test_ten_rows_that_bind_nothing(self):
        table = filled_with(12, wide(12))
        self.assertEqual(bars(table), [])
        self.assertEqual(crossing(table), list(itertools.combinations(range(12), 2)))


class TestInAndOut(BondsCase):
    def test_each_step(self):
        for questions in (1, 3, 6, 12):
            for rows in drawn_row_lists(questions, 6, 8, seed=100 + questions):
                table = Table(questions)
                for at, row in enumerate(rows):
                    table.add(row)
                    self.assert_bonds(table, rows[:at + 1])
                for at, row in enumerate(rows):
                    table.take(row)
                    self.assert_bonds(table, rows[at + 1:])

    def test_back_to_no_rows(self):
        table = filled_with(3, ["yny", "nyn"])
        table.take("yny")
        self.assertEqual(settled(table), [(0, "n"), (1, "y"), (2, "n")])
        self.assertEqual(bundles(table), [])
        table.take("nyn")
        self.assertEqual(len(bars(table)), 12)
        self.assertEqual(settled(table), [])
        self.assertEqual(bundles(table), [])
        self.assertEqual(crossing(table), [])


class TestOwn(BondsCase):
    def test_told_lists_are_the_askers_own_and_asking_changes_nothing(self):
        for rows in ([], ["ynyn"], ["ynyn", "nyyn", "ynyy", "nyyy"], all_rows(4)):
            for asked in ASKED:
                with self.subTest(asked.__name__):
                    self.assert_own(filled_with(4, rows), asked)

    def test_tables_have_nothing_to_do_with_one_another(self):
        one, two = filled_with(2, ["yy", "nn"]), filled_with(2, ["yy", "nn"])
        two.add("yn")
        self.assert_bonds(one, ["yy", "nn"])
        self.assert_bonds(two, ["yy", "nn", "yn"])
        twin = one.twin()
        twin.take("nn")
        self.assert_bonds(one, ["yy", "nn"])
        self.assert_bonds(twin, ["yy"])

    def test_two_hundred_rows_of_twelve_questions_are_answered_soon(self):
        rows = (all_rows(12)[::23] + chain(12) * 2)[:200]
        table = filled_with(12, rows)
        for asked in ASKED:
            self.assert_soon(asked, table)
        self.assert_bonds(table, rows)


if __name__ == "__main__":
    unittest.main()
