"""Turnings, steps, ways, middles, boxes and nearest rulings: points [1] to [5], [12], [13] and wapentake/ways.py."""

import itertools
import random
import unittest

from reference import (SQUARE, TableCase, agrees, all_patterns, all_row_sets, all_rows, bad_texts, borne, bundles_of,
                       came_about, chain, drawn_row_lists, filled_with, flipped, rings, two_of_three, wide)
from wapentake import ways
from wapentake.errors import BadPattern, BadRow, NotBorne, Unmatched
from wapentake.table import Table
from wapentake.ways import box, middle, nearest, neighbours, steps, way


class Land:
    """A table with all its rulings and how far they are from one another, found by threes and by rings."""

    def __init__(self, questions, rows):
        self.rows = rows
        self.table = filled_with(questions, rows)
        self.rulings = came_about(rows)
        self.bundles = bundles_of(rows, questions)
        self.far = {row: rings(self.rulings, self.bundles, row) for row in self.rulings}

    def between(self, one, other):
        straight = self.far[one][other]
        return [row for row in self.rulings if self.far[one][row] + self.far[row][other] == straight]


def small_lands():
    """Lands of one to five questions."""
    told = [Land(questions, rows) for questions in (1, 2) for rows in all_row_sets(questions)]
    told += [Land(3, rows) for rows in all_row_sets(3)[::5]]
    for questions in (4, 5):
        told += [Land(questions, rows) for rows in drawn_row_lists(questions, 14, 7, seed=110 + questions)]
        told.append(Land(questions, chain(questions)))
    return told + [Land(4, all_rows(4)), Land(3, SQUARE)]


LANDS = small_lands()


class WaysCase(TableCase):
    def assert_way(self, told, one, other, rulings, bundles):
        """That a list is a way between two rulings that turns one bundle at a time and no bundle twice."""
        self.assertIs(type(told), list)
        self.assertEqual((told[0], told[-1]), (one, other))
        self.assertEqual([row for row in told if row not in rulings], [])
        turned = []
        for row, following in zip(told, told[1:]):
            turned.append(tuple(at for at in range(len(row)) if row[at] != following[at]))
        self.assertEqual([bundle for bundle in turned if bundle not in bundles], [])
        self.assertEqual(len(set(turned)), len(turned))


class TestInterface(WaysCase):
    def test_the_arguments_are_called_as_told(self):
        self.assert_arguments(ways, {
            "steps": "table one other", "way": "table one other", "middle": "table one two three",
            "box": "table one other", "neighbours": "table row", "nearest": "table row pattern"})


class TestWrittenExamples(WaysCase):
    def test_a_square_with_a_tail(self):
        table = filled_with(3, SQUARE)
        self.assertEqual(steps(table, "nnn", "yyy"), 3)
        self.assertEqual(steps(table, "ynn", "nyn"), 2)
        self.assertIn(way(table, "nnn", "yyy"), (["nnn", "ynn", "yyn", "yyy"], ["nnn", "nyn", "yyn", "yyy"]))
        self.assertEqual(way(table, "yyy", "ynn"), ["yyy", "yyn", "ynn"])
        self.assertEqual(middle(table, "ynn", "nyn", "yyy"), "yyn")
        self.assertEqual(box(table, "nnn", "yyn"), ["nnn", "nyn", "ynn", "yyn"])
        self.assertEqual(box(table, "ynn", "yyy"), ["ynn", "yyn", "yyy"])
        self.assertEqual(neighbours(table, "yyn"), ["nyn", "ynn", "yyy"])
        self.assertEqual(neighbours(table, "yyy"), ["yyn"])
        self.assertEqual(nearest(table, "nnn", "--y"), "yyy")
        self.assertEqual(nearest(table, "yyy", "n--"), "nyn")
        self.assertEqual(nearest(table, "yyy", "nn-"), "nnn")

    def test_wide_bundles(self):
        # 0 and 2 go unlike, 1 is settled, 3 and 4 go alike.
        table = filled_with(5, ["yynyy", "nyynn", "yynnn"])
        self.assertEqual(steps(table, "yynyy", "nyynn"), 2)
        self.assertEqual(way(table, "yynyy", "nyynn"), ["yynyy", "yynnn", "nyynn"])
        self.assertEqual(neighbours(table, "yynnn"), ["nyynn", "yynyy"])
        self.assertEqual(neighbours(table, "nyynn"), ["yynnn"])
        self.assertEqual(box(table, "yynyy", "nyynn"), ["nyynn", "yynnn", "yynyy"])
        self.assertEqual(nearest(table, "nyynn", "----y"), "yynyy")
        self.assertEqual(nearest(table, "nyynn", "--n--"), "yynnn")

    def test_one_ruling_alone(self):
        table = filled_with(3, ["yny", "yny"])
        self.assertEqual(steps(table, "yny", "yny"), 0)
        self.assertEqual(way(table, "yny", "yny"), ["yny"])
        self.assertEqual(middle(table, "yny", "yny", "yny"), "yny")
        self.assertEqual(box(table, "yny", "yny"), ["yny"])
        self.assertEqual(neighbours(table, "yny"), [])
        self.assertEqual(nearest(table, "yny", "---"), "yny")
        self.assertEqual(nearest(table, "yny", "yny"), "yny")

    def test_one_question(self):
        table = filled_with(1, ["y", "n"])
        self.assertEqual(steps(table, "y", "n"), 1)
        self.assertEqual(way(table, "y", "n"), ["y", "n"])
        self.assertEqual(neighbours(table, "y"), ["n"])
        self.assertEqual(box(table, "y", "n"), ["n", "y"])
        self.assertEqual(nearest(table, "y", "n"), "n")

    def test_a_row_that_comes_about_by_threes_alone(self):
        table = filled_with(3, ["yyn", "yny", "nyy"])
        self.assertEqual(steps(table, "yyy", "nyy"), 1)
        self.assertEqual(steps(table, "yyn", "nyy"), 2)
        self.assertEqual(way(table, "yyn", "nyy"), ["yyn", "yyy", "nyy"])
        self.assertEqual(middle(table, "yyn", "yny", "nyy"), "yyy")
        self.assertEqual(neighbours(table, "yyy"), ["nyy", "yny", "yyn"])

    def test_behind_rows_put_in_and_taken_out(self):
        table = filled_with(2, ["yy", "nn"])
        self.assertEqual(way(table, "yy", "nn"), ["yy", "nn"])
        table.add("yn")
        self.assertEqual(way(table, "yy", "nn"), ["yy", "yn", "nn"])
        table.take("yn")
        self.assertEqual(steps(table, "yy", "nn"), 1)


class TestAgainstRings(WaysCase):
    def test_every_ruling_can_be_come_to(self):
        for land in LANDS:
            for one in land.rulings:
                self.assertEqual(sorted(land.far[one]), land.rulings)

    def test_steps_ways_and_boxes(self):
        for land in LANDS:
            for one, other in itertools.product(land.rulings, repeat=2):
                with self.subTest(rows=land.rows, one=one, other=other):
                    self.assertEqual(steps(land.table, one, other), land.far[one][other])
                    told = way(land.table, one, other)
                    self.assert_way(told, one, other, land.rulings, land.bundles)
                    self.assertEqual(len(told), land.far[one][other] + 1)
                    self.assertEqual(box(land.table, one, other), land.between(one, other))

    def test_neighbours(self):
        for land in LANDS:
            for row in land.rulings:
                wanted = [flipped(row, bundle) for bundle in land.bundles if flipped(row, bundle) in land.rulings]
                self.assertEqual(neighbours(land.table, row), wanted, (land.rows, row))
                self.assertEqual(sorted(wanted), [other for other in land.rulings if land.far[row][other] == 1])

    def test_middles(self):
        draw = random.Random(15)
        for land in LANDS:
            threes = list(itertools.product(land.rulings, repeat=3))
            for three in threes if len(threes) <= 125 else draw.sample(threes, 60):
                one, two, three = three
                told = middle(land.table, one, two, three)
                within = (set(land.between(one, two)) & set(land.between(two, three))
                          & set(land.between(one, three)))
                self.assertEqual(within, {told}, (land.rows, one, two, three))
                self.assertEqual(told, "".join(map(two_of_three, one, two, three)))

    def test_middles_where_two_or_all_are_the_same(self):
        for land in LANDS:
            for one, other in itertools.product(land.rulings[:6], repeat=2):
                self.assertEqual(middle(land.table, one, one, other), one)
                self.assertEqual(middle(land.table, one, other, one), one)
                self.assertEqual(middle(land.table, other, one, one), one)
                self.assertEqual(middle(land.table, one, one, one), one)

    def test_nearest(self):
        draw = random.Random(16)
        for land in LANDS:
            patterns = all_patterns(len(land.rows[0]))
            for pattern in patterns if len(patterns) <= 27 else draw.sample(patterns, 30):
                matched = [row for row in land.rulings if agrees(row, pattern)]
                for row in land.rulings if len(land.rulings) <= 8 else draw.sample(land.rulings, 6):
                    with self.subTest(rows=land.rows, row=row, pattern=pattern):
                        self.check_nearest(land, row, pattern, matched)

    def check_nearest(self, land, row, pattern, matched):
        if not matched:
            self.assert_refused(Unmatched, land.table, nearest, land.table, row, pattern)
            return
        told = nearest(land.table, row, pattern)
        far = land.far[row]
        least = min(far[other] for other in matched)
        self.assertEqual([other for other in matched if far[other] == least], [told])
        for other in matched:
            self.assertEqual(far[told] + land.far[told][other], far[other])

    def test_nearest_of_a_pattern_without_answers_or_with_all(self):
        for land in LANDS:
            for row in land.rulings:
                self.assertEqual(nearest(land.table, row, "-" * len(row)), row)
                for other in land.rulings:
                    self.assertEqual(nearest(land.table, row, other), other)


class TestTwelveQuestions(WaysCase):
    def test_drawn_rows(self):
        draw = random.Random(17)
        for rows in drawn_row_lists(12, 16, 12, seed=120) + [chain(12)]:
            table = filled_with(12, rows)
            found = borne(rows, 12)
            bundles = bundles_of(rows, 12)
            for each in range(6):
                one, other = draw.choice(found), draw.choice(found)
                told = way(table, one, other)
                self.assert_way(told, one, other, found, bundles)
                far = len([bundle for bundle in bundles if one[bundle[0]] != other[bundle[0]]])
                self.assertEqual((steps(table, one, other), len(told)), (far, far + 1))
                common = "".join(a if a == b else "-" for a, b in zip(one, other))
                self.assertEqual(box(table, one, other), [row for row in found if agrees(row, common)])
                wanted = [flipped(one, bundle) for bundle in bundles]
                self.assertEqual(neighbours(table, one), [row for row in wanted if row in found])

    def test_nearest_of_drawn_rows(self):
        draw = random.Random(18)
        for rows in drawn_row_lists(12, 16, 12, seed=130) + [chain(12)]:
            table = filled_with(12, rows)
            found = borne(rows, 12)
            lowest = [bundle[0] for bundle in bundles_of(rows, 12)]
            for each in range(6):
                row = draw.choice(found)
                pattern = "".join(draw.choice((sign, "-", "-", "-")) for sign in draw.choice(found))
                told = nearest(table, row, pattern)
                far = {other: len([q for q in lowest if row[q] != other[q]])
                       for other in found if agrees(other, pattern)}
                self.assertEqual([other for other in far if far[other] == min(far.values())], [told])

    def test_a_chain(self):
        table = filled_with(12, chain(12))
        self.assertEqual(way(table, "n" * 12, "y" * 12), chain(12))
        self.assertEqual(way(table, "y" * 12, "n" * 12), chain(12)[::-1])
        self.assertEqual(neighbours(table, "yyyynnnnnnnn"), ["yyynnnnnnnnn", "yyyyynnnnnnn"])
        self.assertEqual(nearest(table, "n" * 12, "-----y------"), "yyyyyynnnnnn")

    def test_4096_rulings_are_answered_soon(self):
        table = filled_with(12, wide(12))
        one, other = "ynynynynynyn", "nynynynynyny"
        self.assertEqual(self.assert_soon(steps, table, one, other), 12)
        told = self.assert_soon(way, table, one, other)
        self.assert_way(told, one, other, all_rows(12), [(q,) for q in range(12)])
        self.assertEqual(len(told), 13)
        self.assertEqual(self.assert_soon(middle, table, one, other, "y" * 12), "y" * 12)
        self.assertEqual(self.assert_soon(box, table, one, other), all_rows(12))
        self.assertEqual(self.assert_soon(neighbours, table, one), [flipped(one, [q]) for q in range(12)])
        self.assertEqual(self.assert_soon(nearest, table, one, "n----------y"), "nnynynynynyy")


class TestRefusals(WaysCase):
    # For each asking: how many rows it takes, and whether a pattern stands behind them.
    ASKINGS = ((steps, 2, False), (way, 2, False), (middle, 3, False), (box, 2, False), (neighbours, 1, False),
               (nearest, 1, True))

    def handed(self, rows, pattern, told="---"):
        return [*rows, told] if pattern else rows

    def test_texts_that_are_no_rows_at_each_place(self):
        table = filled_with(3, SQUARE)
        for asking, many, pattern in self.ASKINGS:
            for at, text in itertools.product(range(many), bad_texts("yyn", stroke=False)):
                with self.subTest(asking=asking.__name__, at=at, text=text[:9]):
                    rows = ["yyn"] * many
                    rows[at] = text
                    self.assert_refused(BadRow, table, asking, table, *self.handed(rows, pattern))

    def test_rows_that_are_no_rulings_at_each_place(self):
        table = filled_with(3, SQUARE)
        for asking, many, pattern in self.ASKINGS:
            for at, row in itertools.product(range(many), ("nny", "yny", "nyy")):
                with self.subTest(asking=asking.__name__, at=at, row=row):
                    rows = ["yyn"] * many
                    rows[at] = row
                    self.assert_refused(NotBorne, table, asking, table, *self.handed(rows, pattern))

    def test_each_row_is_looked_at_whole_in_turn(self):
        table = filled_with(3, SQUARE)
        for asking, many, pattern in self.ASKINGS:
            for rows in itertools.product(("yyn", "nny", "yy"), repeat=many):
                wrong = [row for row in rows if row != "yyn"]
                if wrong:
                    with self.subTest(asking=asking.__name__, rows=rows):
                        error = NotBorne if wrong[0] == "nny" else BadRow
                        self.assert_refused(error, table, asking, table, *self.handed(list(rows), pattern))

    def test_without_rows_there_are_no_rulings(self):
        table = Table(3)
        for asking, many, pattern in self.ASKINGS:
            with self.subTest(asking.__name__):
                self.assert_refused(NotBorne, table, asking, table, *self.handed(["yyn"] * many, pattern))
                self.assert_refused(BadRow, table, asking, table, *self.handed(["yy"] * many, pattern))

    def test_a_row_that_was_taken_out(self):
        table = filled_with(3, SQUARE)
        table.take("yyy")
        for asking, many, pattern in self.ASKINGS:
            self.assert_refused(NotBorne, table, asking, table, *self.handed(["yyy"] * many, pattern))

    def test_patterns(self):
        table = filled_with(3, SQUARE)
        for text in bad_texts("y-n", stroke=True):
            with self.subTest(text[:9]):
                self.assert_refused(BadPattern, table, nearest, table, "yyn", text)
                self.assert_refused(NotBorne, table, nearest, table, "nny", text)
                self.assert_refused(BadRow, table, nearest, table, "yy", text)

    def test_patterns_that_no_ruling_matches(self):
        table = filled_with(3, SQUARE)
        for pattern in ("n-y", "-ny", "nny", "yny", "nyy"):
            with self.subTest(pattern):
                self.assert_refused(Unmatched, table, nearest, table, "yyn", pattern)
                self.assert_refused(NotBorne, table, nearest, table, "nny", pattern)
                self.assert_refused(BadRow, table, nearest, table, "yy", pattern)
        settled = filled_with(2, ["yn", "yy"])
        self.assert_refused(Unmatched, settled, nearest, settled, "yn", "n-")


class TestOwn(WaysCase):
    def test_told_lists_are_the_askers_own_and_asking_changes_nothing(self):
        for rows in (SQUARE, SQUARE + ["nnn"] * 3, all_rows(3)):
            table = filled_with(3, rows)
            self.assert_own(table, steps, "nnn", "yyy")
            self.assert_own(table, way, "nnn", "yyy")
            self.assert_own(table, way, "nnn", "nnn")
            self.assert_own(table, middle, "nnn", "yyy", "yyn")
            self.assert_own(table, box, "nnn", "yyy")
            self.assert_own(table, neighbours, "yyn")
            self.assert_own(table, nearest, "nnn", "--y")

    def test_tables_have_nothing_to_do_with_one_another(self):
        one, two = filled_with(2, ["yy", "nn"]), filled_with(2, ["yy", "nn"])
        two.add("yn")
        self.assertEqual(steps(one, "yy", "nn"), 1)
        self.assertEqual(steps(two, "yy", "nn"), 2)
        self.assertEqual(neighbours(one, "yy"), ["nn"])


if __name__ == "__main__":
    unittest.main()
