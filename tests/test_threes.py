"""Walks of threes: points [1] to [5], [10], [22] and wapentake/threes.py."""

import itertools
import random
import unittest

from moot import do, drawn_deeds, lacks_of, met, outcome
from reference import (FORTY, SIXTY, TableCase, all_row_sets, all_rows, bad_texts, borne, chain, drawn_row_lists,
                       two_of_three, wide)
from wapentake import threes
from wapentake.asks import folk, row_of
from wapentake.assembly import Assembly
from wapentake.errors import BadRow, BadWalk
from wapentake.threes import leads_to, paper

NUMBERS_OF_NO_THREE = (0, 1, 2, 7, -1, -2, FORTY, -FORTY, SIXTY, -SIXTY)


def gone(assembly, walk):
    """The row of each three of a walk, by the words of [22]."""
    rows = []
    for three in walk:
        chosen = [rows[each] if isinstance(each, int) else row_of(assembly, each) for each in three]
        rows.append("".join(map(two_of_three, *chosen)))
    return rows


class ThreesCase(TableCase):
    def assert_walk(self, assembly, told, row):
        """That what is told is a short walk of threes that leads to a row."""
        kind, walk = told
        self.assertEqual((type(told), kind, type(walk)), (tuple, "walk", list))
        self.assertLessEqual(1, len(walk))
        self.assertLessEqual(len(walk), assembly.questions ** 2)
        for number, three in enumerate(walk):
            self.assertEqual((type(three), len(three)), (tuple, 3))
            for each in three:
                self.assertIn(type(each), (int, str))
                self.assertIn(each, folk(assembly) if isinstance(each, str) else range(number))
        self.assertEqual(gone(assembly, walk)[-1], row)
        self.assertEqual(leads_to(assembly, walk), row)

    def assert_paper(self, assembly, rows, row):
        """That what is told of a row is so; whether it is a ruling."""
        told = paper(assembly, row)
        missing = lacks_of(rows, row)
        if missing:
            self.assertEqual((type(told), told[0]), (tuple, "nobody"))
            self.assertIn(told[1:], missing)
        else:
            self.assert_walk(assembly, told, row)
        return not missing


class TestInterface(ThreesCase):
    def test_the_arguments_are_called_as_told(self):
        self.assert_arguments(threes, {"paper": "assembly row", "leads_to": "assembly walk"})


class TestPaper(ThreesCase):
    def test_written_examples(self):
        assembly = met(3, ["ynn", "nyn", "nny"])
        kind, walk = paper(assembly, "nnn")
        self.assertEqual((kind, sorted(walk[-1], key=str)), ("walk", ["p0", "p1", "p2"]))
        self.assertEqual(paper(assembly, "yyn"), ("nobody", 0, 1))
        self.assertEqual(paper(assembly, "nyy"), ("nobody", 1, 2))

    def test_each_row_of_assemblies_of_up_to_five_questions(self):
        lists = [(questions, rows) for questions in (1, 2) for rows in all_row_sets(questions)]
        lists += [(3, rows) for rows in all_row_sets(3)[::3]]
        for questions in (3, 4, 5):
            lists += [(questions, rows) for rows in drawn_row_lists(questions, 20, 7, seed=900 + questions)]
            lists += [(questions, chain(questions)), (questions, wide(questions))]
        for questions, rows in lists:
            assembly = met(questions, rows)
            told = [row for row in all_rows(questions) if self.assert_paper(assembly, rows, row)]
            self.assertEqual(told, borne(rows, questions))

    def test_drawn_rulings_of_up_to_twelve_questions(self):
        draw = random.Random(910)
        for questions in range(6, 13):
            for rows in drawn_row_lists(questions, 4, 12, seed=910 + questions) + [chain(questions), wide(questions)]:
                assembly = met(questions, rows)
                rulings = borne(rows, questions)
                for row in draw.sample(rulings, min(6, len(rulings))):
                    self.assertTrue(self.assert_paper(assembly, rows, row))
                for row in draw.sample(all_rows(questions), 6):
                    self.assert_paper(assembly, rows, row)

    def test_nobody_there(self):
        for questions in (1, 2, 3, 12):
            for row in all_rows(questions)[::questions]:
                kind, q, r = paper(Assembly(questions), row)
                self.assertEqual(kind, "nobody")
                self.assertTrue(0 <= q <= r < questions)

    def test_one_and_two_folk(self):
        for questions in (1, 2, 3, 4):
            rows = all_rows(questions)
            for one, two in itertools.product(rows, repeat=2):
                alone, both = met(questions, [one]), met(questions, [one, two])
                for row in rows:
                    self.assertEqual(self.assert_paper(alone, [one], row), row == one)
                    self.assertEqual(self.assert_paper(both, [one, two], row), row in borne([one, two], questions))

    def test_behind_deeds_undoings_and_redoings(self):
        for seed in range(6):
            assembly = Assembly(3)
            for deed in drawn_deeds(3, 40, seed=930 + seed):
                outcome(do, assembly, deed)
                rows = [row_of(assembly, name) for name in folk(assembly)]
                for row in all_rows(3):
                    self.assert_paper(assembly, rows, row)

    def test_bad_rows(self):
        assembly = met(3, ["ynn", "nyn", "nny"])
        for row in bad_texts("nnn", stroke=False):
            self.assert_refused(BadRow, assembly, paper, assembly, row)
            self.assert_refused(BadRow, Assembly(3), paper, Assembly(3), row)

    def test_nothing_is_changed_and_what_is_told_is_the_askers_own(self):
        assembly = met(4, wide(4))
        self.assert_own(assembly, paper, "nyny")
        self.assert_own(assembly, leads_to, paper(assembly, "nyny")[1])

    def test_a_hundred_folk_of_twelve_questions_are_answered_soon(self):
        assembly = met(12, (wide(12) + chain(12) * 7)[:100])
        for row in all_rows(12)[::512]:
            told = self.assert_soon(paper, assembly, row)
            self.assert_walk(assembly, told, row)
            self.assertEqual(self.assert_soon(leads_to, assembly, told[1]), row)


class TestLeadsTo(ThreesCase):
    def setUp(self):
        self.assembly = met(3, ["ynn", "nyn", "nny", "yyy"])

    def refused(self, walk):
        self.assert_refused(BadWalk, self.assembly, leads_to, self.assembly, walk)

    def test_written_examples(self):
        self.assertEqual(leads_to(self.assembly, [("p0", "p1", "p2")]), "nnn")
        self.assertEqual(leads_to(self.assembly, [("p0", "p1", "p3")]), "yyn")
        self.assertEqual(leads_to(self.assembly, [("p2", "p2", "p2")]), "nny")
        self.assertEqual(leads_to(self.assembly, [("p0", "p1", "p2"), (0, 0, "p3")]), "nnn")
        self.assertEqual(leads_to(self.assembly, [("p0", "p1", "p3"), (0, "p3", "p2")]), "yyy")
        self.assertEqual(leads_to(self.assembly, [("p0", "p1", "p3"), ("p0", "p1", "p2"), (0, 1, "p1")]), "nyn")
        self.assertEqual(leads_to(self.assembly, [("p0", "p1", "p3"), ("p0", "p1", "p2")]), "nnn")

    def test_drawn_walks(self):
        draw = random.Random(940)
        for questions in (1, 3, 6, 12):
            assembly = met(questions, drawn_row_lists(questions, 1, 9, seed=940 + questions)[0])
            for each in range(30):
                walk = []
                for number in range(draw.randint(1, 12)):
                    walk.append(tuple(draw.choice(folk(assembly) + list(range(number))) for place in range(3)))
                kept = list(walk)
                self.assertEqual(leads_to(assembly, walk), gone(assembly, walk)[-1])
                self.assertEqual(walk, kept)

    def test_a_walk_without_threes(self):
        self.refused([])
        self.assert_refused(BadWalk, Assembly(2), leads_to, Assembly(2), [])

    def test_names_that_nobody_has(self):
        for name in ("p4", "", "P0", "p0 ", "0", "1", "-1", "a" * 400):
            for place in range(3):
                self.refused([tuple(name if at == place else "p0" for at in range(3))])
                self.refused([("p0", "p1", "p2"), tuple(name if at == place else 0 for at in range(3))])
        self.assembly.leave("p1")
        self.refused([("p0", "p1", "p2")])
        self.assembly.undo()
        self.assertEqual(leads_to(self.assembly, [("p0", "p1", "p2")]), "nnn")

    def test_numbers_of_this_three_or_a_later_one_or_none(self):
        for number in NUMBERS_OF_NO_THREE:
            for place in range(3):
                self.refused([tuple(number if at == place else "p0" for at in range(3))])
                if number != 0:
                    self.refused([("p0", "p1", "p2"), tuple(number if at == place else 0 for at in range(3))])
        self.refused([("p0", "p1", 1), ("p0", "p1", "p2")])
        self.refused([("p0", "p1", "p2"), (0, 1, 1), (0, 0, 0)])
        self.refused([("p0", "p1", "p2"), (0, 2, 0), (0, 0, 0)])

    def test_a_bad_three_ahead_or_behind_good_ones(self):
        good = ("p0", "p1", "p2")
        self.refused([("p0", "p1", "nobody"), good])
        self.refused([good, ("p0", "p1", "nobody")])
        self.refused([good, good, (0, 1, -1), good])

    def test_with_nobody_there(self):
        for walk in ([("p0", "p0", "p0")], [(0, 0, 0)], [(-1, -1, -1)]):
            self.assert_refused(BadWalk, Assembly(1), leads_to, Assembly(1), walk)

    def test_a_walk_of_two_hundred_threes_is_answered_soon(self):
        assembly = met(12, wide(12))
        walk = [("p2", "p4", "p6")] + [(at, "p1", f"p{at % 10}") for at in range(199)]
        self.assertEqual(self.assert_soon(leads_to, assembly, walk), gone(assembly, walk)[-1])


if __name__ == "__main__":
    unittest.main()
