"""The newcomer's row: points [2] to [5], [24] and wapentake/wants.py."""

import random
import unittest

from moot import do, drawn_deeds, lacks_of, met, outcome
from reference import TableCase, all_rows, bad_texts, drawn_row_lists, facts, holds, wide
from wapentake import wants
from wapentake.asks import folk, oaths_of, row_of
from wapentake.assembly import Assembly
from wapentake.errors import BadRow, Borne, Broken, NoPerson
from wapentake.wants import newcomer


def unlike(one, two):
    return sum(a != b for a, b in zip(one, two))


def keeps_all(assembly, row):
    return all(holds(row, oath) for number, *oath in oaths_of(assembly))


def rows_that_help(assembly, wanted):
    """The rows that keep all standing oaths and with which somebody can come for the wanted row to come about."""
    rows = [row_of(assembly, name) for name in folk(assembly)]
    missing = lacks_of(rows, wanted)
    told = []
    for row in all_rows(assembly.questions):
        if keeps_all(assembly, row) and all(row[q] == wanted[q] and row[r] == wanted[r] for q, r in missing):
            told.append(row)
    return told


def due(assembly, name, wanted):
    """What is due by the words of [24]: a refusal or a row."""
    if name not in folk(assembly):
        return ("refused", NoPerson)
    if len(wanted) != assembly.questions or set(wanted) - set("ny"):
        return ("refused", BadRow)
    if not lacks_of([row_of(assembly, each) for each in folk(assembly)], wanted):
        return ("refused", Borne)
    if not keeps_all(assembly, wanted):
        return ("refused", Broken)
    own = row_of(assembly, name)
    ranked = sorted(rows_that_help(assembly, wanted), key=lambda row: unlike(row, own))
    if len(ranked) > 1 and unlike(ranked[0], own) == unlike(ranked[1], own):
        raise AssertionError(f"there is not just one: {ranked[:2]}")
    return ("told", ranked[0])


def sworn(questions, rows, many, seed):
    """An assembly of folk with these rows and up to so many oaths that they all keep."""
    draw = random.Random(seed)
    assembly = met(questions, rows)
    for each in range(many):
        q, r = draw.randrange(questions), draw.randrange(questions)
        outcome(assembly.swear, draw.choice(folk(assembly)), q, draw.choice("ny"), r, draw.choice("ny"))
    return assembly


class WantsCase(TableCase):
    def assert_due(self, assembly, name, wanted):
        told = outcome(newcomer, assembly, name, wanted)
        self.assertEqual(told, due(assembly, name, wanted), (name, wanted, facts(assembly)))
        return told

    def assert_helps(self, assembly, row, wanted):
        """That a row lets the wanted one come about, tried out with somebody who comes."""
        twin = assembly.twin()
        self.assertEqual(outcome(twin.enter, wanted)[0], "refused")
        twin.come("newcomer", row)
        self.assertEqual(outcome(twin.enter, wanted)[0], "told")


class TestInterface(WantsCase):
    def test_the_arguments_are_called_as_told(self):
        self.assert_arguments(wants, {"newcomer": "assembly name wanted"})


class TestNewcomer(WantsCase):
    def test_written_examples(self):
        assembly = met(3, ["ynn", "nyn", "nny"])
        self.assertEqual(newcomer(assembly, "p0", "yyn"), "yyn")
        self.assertEqual(newcomer(assembly, "p2", "yyn"), "yyy")
        self.assertEqual(newcomer(assembly, "p0", "nyy"), "yyy")
        self.assertEqual(newcomer(assembly, "p1", "yyy"), "yyy")
        self.assertEqual(newcomer(met(2, ["yn"]), "p0", "yy"), "yy")
        self.assertEqual(newcomer(met(1, ["y"]), "p0", "n"), "n")

    def test_where_oaths_lead_on(self):
        # Nobody gives yes to 0 and to 1 together. The first oath leads on to yes to 2, the second one from there to 3.
        assembly = met(4, ["ynyy", "nyyy", "nnnn"])
        self.assertEqual(newcomer(assembly, "p2", "yyyy"), "yynn")
        self.assertEqual(assembly.swear("p0", 0, "y", 2, "y"), 0)
        self.assertEqual(newcomer(assembly, "p2", "yyyy"), "yyyn")
        self.assertEqual(assembly.swear("p1", 3, "n", 2, "n"), 1)
        self.assertEqual(newcomer(assembly, "p2", "yyyy"), "yyyy")
        assembly.recant("p0", 0)
        self.assertEqual(newcomer(assembly, "p2", "yyyy"), "yynn")
        assembly.undo()
        self.assertEqual(newcomer(assembly, "p2", "yyyy"), "yyyy")
        assembly.leave("p2")
        assembly.undo()
        assembly.undo()
        self.assertEqual(newcomer(assembly, "p2", "yyyy"), "yyyn")

    def test_against_all_rows_without_oaths(self):
        for questions in (1, 2, 3, 4, 5):
            for rows in drawn_row_lists(questions, 8, 5, seed=950 + questions):
                assembly = met(questions, rows)
                for wanted in all_rows(questions):
                    for name in folk(assembly):
                        kind, row = self.assert_due(assembly, name, wanted)
                        if kind == "told":
                            self.assert_helps(assembly, row, wanted)

    def test_against_all_rows_with_oaths(self):
        seen = set()
        for questions in (1, 2, 3, 4, 5):
            for number, rows in enumerate(drawn_row_lists(questions, 12, 4, seed=960 + questions)):
                assembly = sworn(questions, rows, 3 * questions, seed=970 + number)
                for wanted in all_rows(questions):
                    for name in folk(assembly):
                        kind, told = self.assert_due(assembly, name, wanted)
                        seen.add(told if kind == "refused" else kind)
        self.assertEqual(seen, {"told", Borne, Broken})

    def test_six_questions(self):
        for number, rows in enumerate(drawn_row_lists(6, 6, 5, seed=980)):
            assembly = sworn(6, rows, 12, seed=981 + number)
            for wanted in all_rows(6):
                for name in folk(assembly):
                    self.assert_due(assembly, name, wanted)

    def test_behind_oaths_sworn_taken_back_and_undone(self):
        for seed in range(8):
            assembly = Assembly(3)
            for deed in drawn_deeds(3, 40, seed=990 + seed):
                outcome(do, assembly, deed)
                for name in folk(assembly)[:2]:
                    for wanted in all_rows(3):
                        self.assert_due(assembly, name, wanted)

    def test_nothing_is_changed(self):
        assembly = sworn(3, ["ynn", "nyn", "nny"], 9, seed=994)
        for wanted in all_rows(3):
            if outcome(newcomer, assembly, "p1", wanted)[0] == "told":
                self.assert_own(assembly, newcomer, "p1", wanted)

    def test_a_hundred_folk_of_twelve_questions_are_answered_soon(self):
        draw = random.Random(995)
        assembly = met(12, ([row for row in wide(12) if row[0] == "n"] * 20)[:100])
        for at in range(60):
            q, r = draw.sample(range(1, 12), 2)
            outcome(assembly.swear, f"p{at}", q, draw.choice("ny"), r, draw.choice("ny"))
        self.assertGreater(len(oaths_of(assembly)), 5)
        wanted = [row for row in all_rows(12) if keeps_all(assembly, row) and row[0] == "y"]
        for row in draw.sample(wanted, 12) + draw.sample(all_rows(12), 4):
            told = self.assert_soon(outcome, newcomer, assembly, "p2", row)
            self.assertEqual(told, due(assembly, "p2", row))


class TestRefused(WantsCase):
    def setUp(self):
        self.assembly = met(3, ["ynn", "nyn", "nny"])
        self.assembly.swear("p0", 0, "y", 1, "n")

    def refused(self, error, name, wanted):
        self.assert_refused(error, self.assembly, newcomer, self.assembly, name, wanted)

    def test_nobody(self):
        for name in ("p3", "", "P0", "p0 ", "a" * 400):
            self.refused(NoPerson, name, "yny")
        self.assert_refused(NoPerson, Assembly(1), newcomer, Assembly(1), "ada", "y")

    def test_bad_rows(self):
        for row in bad_texts("yyn", stroke=False):
            self.refused(BadRow, "p0", row)

    def test_rulings(self):
        for row in ("nnn", "ynn", "nyn", "nny"):
            self.refused(Borne, "p1", row)

    def test_rows_that_break_an_oath(self):
        self.refused(Broken, "p0", "yyn")
        self.refused(Broken, "p2", "yyy")
        self.assembly.recant("p0", 0)
        self.assertEqual(newcomer(self.assembly, "p0", "yyn"), "yyn")

    def test_the_refusal_told_first(self):
        self.refused(NoPerson, "nobody", "maybe")
        self.refused(NoPerson, "nobody", "nnn")
        self.refused(NoPerson, "nobody", "yyn")
        self.refused(BadRow, "p0", "y-n")


if __name__ == "__main__":
    unittest.main()
