"""What is asked of an assembly, and its narrowing: points [2] to [5], [10], [17] to [21], [23], [25] and
wapentake/asks.py."""

import itertools
import random
import unittest

from moot import Moot, do, drawn_deeds, lacks_of, met, outcome
from reference import (FORTY, SIXTY, TableCase, all_rows, bad_texts, borne, chain, drawn_row_lists, facts, filled_with,
                       state, wide)
from wapentake import asks
from wapentake.asks import (bearers, deeds, folk, narrowed, oaths_of, pillars, roll, row_of, swearers, sworn_by,
                            table_of, undone)
from wapentake.assembly import Assembly
from wapentake.errors import BadCount, BadRow, NoOath, NoPerson, NoQuestion, NotBorne, Twice
from wapentake.fills import lacks, rulings
from wapentake.table import Table

WRONG_QUESTIONS = (3, 4, -1, -3, FORTY, -FORTY, SIXTY)
# What each function that takes no more than the assembly tells, and what others are handed beside it.
ALONE = (folk, oaths_of, roll, deeds, undone)
HANDED = ((swearers, (0,)), (sworn_by, ("bo",)), (bearers, ("nnn", 0, 1)), (pillars, ("ynn",)))


def busy():
    """An assembly with folk, oaths, entries of each kind, and deeds to undo and to redo."""
    assembly = Assembly(3)
    for name, row in (("zed", "ynn"), ("bo", "nyn"), ("ada", "nny")):
        assembly.come(name, row)
    assembly.swear("bo", 0, "y", 1, "n")
    assembly.swear("zed", 0, "y", 1, "n")
    assembly.swear("bo", 1, "y", 2, "n")
    for row in ("nnn", "ynn", "nny", "nyn"):
        assembly.enter(row)
    assembly.strike(3)
    assembly.come("cy", "nnn")
    assembly.turn("ada", 2, "n")
    assembly.turn("ada", 2, "y")
    assembly.enter("nny")
    assembly.leave("cy")
    assembly.undo()
    assembly.undo()
    return assembly


class TestInterface(TableCase):
    def test_the_arguments_are_called_as_told(self):
        self.assert_arguments(asks, {
            "folk": "assembly", "row_of": "assembly name", "table_of": "assembly", "oaths_of": "assembly",
            "swearers": "assembly number", "sworn_by": "assembly name", "roll": "assembly", "deeds": "assembly",
            "undone": "assembly", "bearers": "assembly row q r", "pillars": "assembly row",
            "narrowed": "assembly questions"})


class TestAsking(TableCase):
    def test_written_answers(self):
        assembly = busy()
        self.assertEqual(folk(assembly), ["zed", "bo", "ada", "cy"])
        self.assertEqual([row_of(assembly, name) for name in folk(assembly)], ["ynn", "nyn", "nny", "nnn"])
        self.assertEqual(table_of(assembly).rows(), ["nnn", "nny", "nyn", "ynn"])
        self.assertEqual(oaths_of(assembly), [(0, 0, "y", 1, "n"), (1, 1, "y", 2, "n")])
        self.assertEqual(swearers(assembly, 0), ["bo", "zed"])
        self.assertEqual(swearers(assembly, 1), ["bo"])
        self.assertEqual([sworn_by(assembly, name) for name in folk(assembly)], [[0], [0, 1], [], []])
        self.assertEqual(roll(assembly), [(0, "nnn", "standing", None), (1, "ynn", "standing", None),
                                          (2, "nny", "fallen", (0, 2)), (3, "nyn", "struck", None)])
        self.assertEqual(deeds(assembly)[-3:],
                         [("come", "cy", "nnn"), ("turn", "ada", 2, "n"), ("turn", "ada", 2, "y")])
        self.assertEqual(deeds(assembly)[3], ("swear", "bo", 0, "y", 1, "n"))
        self.assertEqual(deeds(assembly)[6:8], [("enter", "nnn"), ("enter", "ynn")])
        self.assertEqual(deeds(assembly)[10], ("strike", 3))
        self.assertEqual(undone(assembly), [("enter", "nny"), ("leave", "cy")])

    def test_kinds(self):
        assembly = busy()
        for ask in ALONE:
            self.assertIs(type(ask(assembly)), list)
        self.assertIs(type(table_of(assembly)), Table)
        self.assertEqual(table_of(assembly).questions, 3)
        for told in oaths_of(assembly) + roll(assembly) + deeds(assembly) + undone(assembly):
            self.assertIs(type(told), tuple)
        self.assertIs(type(roll(assembly)[2][3]), tuple)

    def test_an_assembly_of_nobody(self):
        assembly = Assembly(2)
        for ask in ALONE:
            self.assertEqual(ask(assembly), [])
        self.assertEqual(state(table_of(assembly)), state(Table(2)))
        self.assertEqual(bearers(assembly, "yn", 0, 1), [])
        self.assert_refused(NotBorne, assembly, pillars, assembly, "yn")

    def test_every_function_behind_deeds_undoings_and_redoings(self):
        for seed in range(8):
            assembly, moot = Assembly(3), Moot(3)
            for deed in drawn_deeds(3, 60, seed=800 + seed):
                self.assertEqual(outcome(do, assembly, deed), outcome(moot.do, *deed))
                self.assertEqual(facts(assembly), moot.facts())
                hall, told = moot.hall(moot.deeds)
                self.assertEqual(rulings(table_of(assembly)), borne(hall.rows(), 3))
                for row in all_rows(3):
                    missing = lacks_of(hall.rows(), row)
                    self.assertEqual(lacks(table_of(assembly), row), missing)
                    self.assertEqual(bearers(assembly, row, 2, 0), self.bearers_of(hall.folk, row, 2, 0))
                    wanted = ("refused", NotBorne) if missing else ("told", self.pillars_of(hall.folk, row))
                    self.assertEqual(outcome(pillars, assembly, row), wanted)

    def bearers_of(self, people, row, q, r):
        return [name for name, own in people if (own[q], own[r]) == (row[q], row[r])]

    def pillars_of(self, people, row):
        """Those without whom, all others staying, the row has a lack."""
        return [name for name, own in people if lacks_of([each for other, each in people if other != name], row)]

    def test_asking_changes_nothing_and_what_is_told_is_the_askers_own(self):
        assembly = busy()
        for ask in ALONE:
            self.assertNotEqual(ask(assembly), [])
            self.assert_own(assembly, ask)
        for ask, handed in HANDED:
            self.assertNotEqual(ask(assembly, *handed), [])
            self.assert_own(assembly, ask, *handed)

    def test_a_told_list_that_was_changed_changes_no_deed(self):
        assembly = busy()
        for ask, handed in tuple((ask, ()) for ask in ALONE) + HANDED:
            del ask(assembly, *handed)[:]
        self.assertEqual(assembly.swear("ada", 0, "y", 1, "n"), 0)
        self.assertEqual(swearers(assembly, 0), ["bo", "zed", "ada"])
        self.assertEqual(assembly.enter("nny"), 4)
        self.assertEqual(assembly.undo(), ("enter", "nny"))

    def test_a_told_table_is_the_askers_own(self):
        assembly = busy()
        before = facts(assembly)
        told = table_of(assembly)
        told.add("yyy")
        told.take("nny")
        self.assertEqual(facts(assembly), before)
        self.assertEqual(assembly.enter("nny"), 4)
        self.assertEqual(outcome(assembly.enter, "yyy"), ("refused", NotBorne))
        kept = table_of(assembly)
        assembly.leave("ada")
        self.assertEqual(kept.rows(), ["nnn", "nny", "nyn", "ynn"])

    def test_what_was_told_earlier_stays(self):
        assembly = busy()
        told = [ask(assembly) for ask in ALONE] + [swearers(assembly, 0), sworn_by(assembly, "bo")]
        kept = [list(each) for each in told]
        for deed in (("undo",), ("redo",), ("swear", "ada", 0, "y", 1, "n"), ("recant", "zed", 0), ("strike", 0),
                     ("leave", "bo"), ("come", "new", "nnn"), ("enter", "nnn")):
            do(assembly, deed)
            self.assertEqual(told, kept)


class TestRefused(TableCase):
    def setUp(self):
        self.assembly = busy()

    def refused(self, error, deed, *handed):
        self.assert_refused(error, self.assembly, deed, self.assembly, *handed)

    def test_nobody(self):
        for name in ("ed", "", "Ada", "ada ", " ada", "a" * 400, "0"):
            self.refused(NoPerson, row_of, name)
            self.refused(NoPerson, sworn_by, name)
        self.assembly.leave("ada")
        self.refused(NoPerson, row_of, "ada")
        self.refused(NoPerson, sworn_by, "ada")
        self.assembly.undo()
        self.assertEqual((row_of(self.assembly, "ada"), sworn_by(self.assembly, "ada")), ("nny", []))

    def test_no_oath(self):
        for number in (2, 3, -1, -2, FORTY, -SIXTY):
            self.refused(NoOath, swearers, number)
        self.assembly.recant("bo", 1)
        self.refused(NoOath, swearers, 1)
        self.assembly.undo()
        self.assertEqual(swearers(self.assembly, 1), ["bo"])

    def test_bad_rows(self):
        for row in bad_texts("nnn", stroke=False):
            self.refused(BadRow, bearers, row, 0, 0)
            self.refused(BadRow, bearers, row, 9, 9)
            self.refused(BadRow, pillars, row)

    def test_no_question(self):
        for question in WRONG_QUESTIONS:
            self.refused(NoQuestion, bearers, "nnn", question, 0)
            self.refused(NoQuestion, bearers, "nnn", 0, question)
            self.refused(NoQuestion, bearers, "yyy", question, question)

    def test_rows_that_are_no_rulings(self):
        for row in ("yyn", "yyy", "nyy", "yny"):
            self.refused(NotBorne, pillars, row)


class TestBearersAndPillars(TableCase):
    def test_written_examples(self):
        assembly = met(3, ["ynn", "nyn", "nny", "nnn"])
        self.assertEqual(bearers(assembly, "nnn", 0, 1), ["p2", "p3"])
        self.assertEqual(bearers(assembly, "nnn", 1, 0), ["p2", "p3"])
        self.assertEqual(bearers(assembly, "yyn", 0, 1), [])
        self.assertEqual(bearers(assembly, "yyn", 2, 2), ["p0", "p1", "p3"])
        self.assertEqual(pillars(assembly, "nnn"), [])
        self.assertEqual(pillars(assembly, "ynn"), ["p0"])
        self.assertEqual(pillars(met(3, ["ynn", "nyn", "nny"]), "nnn"), ["p0", "p1", "p2"])
        self.assertEqual(pillars(met(3, ["ynn"]), "ynn"), ["p0"])
        self.assertEqual(pillars(met(1, ["y", "y"]), "y"), [])
        self.assertEqual(pillars(met(1, ["y", "n"]), "n"), ["p1"])

    def test_the_order_is_the_order_of_coming(self):
        assembly = Assembly(2)
        for name, row in (("zed", "yn"), ("m", "ny"), ("ada", "yy"), ("bo", "yn")):
            assembly.come(name, row)
        assembly.leave("zed")
        assembly.come("zed", "yn")
        self.assertEqual(bearers(assembly, "yn", 0, 0), ["ada", "bo", "zed"])
        self.assertEqual(bearers(assembly, "yn", 0, 1), ["bo", "zed"])
        assembly.leave("bo")
        assembly.come("bo", "nn")
        assembly.turn("zed", 0, "n")
        self.assertEqual(pillars(assembly, "ny"), ["m"])
        self.assertEqual(pillars(assembly, "yy"), ["ada"])

    def test_drawn_assemblies(self):
        for questions in (1, 2, 4, 6):
            for rows in drawn_row_lists(questions, 12, 7, seed=820 + questions):
                assembly = met(questions, rows)
                for row in borne(rows, questions):
                    told = [f"p{at}" for at in range(len(rows)) if lacks_of(rows[:at] + rows[at + 1:], row)]
                    self.assertEqual(pillars(assembly, row), told)
                for q, r in itertools.product(range(questions), repeat=2):
                    told = [f"p{at}" for at, own in enumerate(rows) if own[q] == rows[0][q] and own[r] == rows[0][r]]
                    self.assertEqual(bearers(assembly, rows[0], q, r), told)

    def test_a_hundred_folk_are_answered_soon(self):
        rows = (wide(12) + chain(12)) * 5
        assembly = met(12, rows[:100])
        for row in rows[:23]:
            told = self.assert_soon(pillars, assembly, row)
            self.assertEqual(told, [])
            same = [own for own in rows[:100] if own[0] == row[0]]
            self.assertEqual(len(self.assert_soon(bearers, assembly, row, 0, 0)), len(same))


class TestNarrowing(TableCase):
    def assert_narrowed(self, assembly, questions):
        before, handed = facts(assembly), list(questions)
        told = narrowed(assembly, questions)
        self.assertIs(type(told), Assembly)
        self.assertEqual((facts(assembly), questions), (before, handed))
        rows = [(name, "".join(row_of(assembly, name)[at] for at in questions)) for name in folk(assembly)]
        moot = Moot(len(questions))
        for name, row in rows:
            moot.do("come", name, row)
        self.assertEqual(facts(told), moot.facts())
        seen = sorted({"".join(row[at] for at in questions) for row in rulings(table_of(assembly))})
        self.assertEqual(rulings(table_of(told)), seen)
        return told

    def test_written_examples(self):
        told = self.assert_narrowed(busy(), [2, 0])
        self.assertEqual(told.questions, 2)
        self.assertEqual([row_of(told, name) for name in folk(told)], ["ny", "nn", "yn", "nn"])
        self.assertEqual((oaths_of(told), roll(told), undone(told)), ([], [], []))
        self.assertEqual(deeds(told), [("come", "zed", "ny"), ("come", "bo", "nn"), ("come", "ada", "yn"),
                                       ("come", "cy", "nn")])

    def test_one_some_and_all_questions_in_any_order(self):
        for seed in range(6):
            assembly = Assembly(4)
            for deed in drawn_deeds(4, 50, seed=840 + seed):
                outcome(do, assembly, deed)
            for many in range(1, 5):
                for questions in itertools.permutations(range(4), many):
                    self.assert_narrowed(assembly, list(questions))

    def test_an_assembly_of_nobody(self):
        self.assert_narrowed(Assembly(3), [1])
        self.assert_narrowed(Assembly(3), [2, 1, 0])

    def test_oaths_and_their_refusals_stay_behind(self):
        assembly = met(2, ["yy", "nn"])
        assembly.swear("p0", 0, "y", 1, "y")
        told = narrowed(assembly, [0, 1])
        told.come("p2", "yn")
        self.assertEqual(told.swear("p0", 0, "y", 0, "y"), 0)
        self.assertEqual(outcome(assembly.come, "p2", "yn")[0], "refused")

    def test_the_two_go_their_own_ways(self):
        assembly = busy()
        before = facts(assembly)
        told = narrowed(assembly, [0, 1, 2])
        kept = facts(told)
        told.leave("ada")
        for each in range(5):
            told.undo()
        self.assertEqual(folk(told), [])
        self.assertEqual(facts(assembly), before)
        again = narrowed(assembly, [0, 1, 2])
        assembly.leave("ada")
        assembly.turn("bo", 1, "n")
        self.assertEqual(facts(again), kept)

    def test_refusals(self):
        assembly = busy()
        self.assert_refused(BadCount, assembly, narrowed, assembly, [])
        for question in WRONG_QUESTIONS:
            self.assert_refused(NoQuestion, assembly, narrowed, assembly, [question])
            self.assert_refused(NoQuestion, assembly, narrowed, assembly, [0, 1, question])
        self.assert_refused(Twice, assembly, narrowed, assembly, [1, 1])
        self.assert_refused(Twice, assembly, narrowed, assembly, [0, 1, 2, 0])
        self.assert_refused(Twice, assembly, narrowed, assembly, [0, 2, 2])

    def test_each_question_is_looked_at_whole_in_its_turn(self):
        assembly = busy()
        self.assert_refused(Twice, assembly, narrowed, assembly, [1, 1, 3])
        self.assert_refused(NoQuestion, assembly, narrowed, assembly, [1, 3, 1])
        self.assert_refused(NoQuestion, assembly, narrowed, assembly, [3, 3])
        self.assert_refused(Twice, assembly, narrowed, assembly, [0, 1, 2] * 66)

    def test_more_questions_than_twelve_are_no_bad_count(self):
        assembly = met(12, ["y" * 12])
        self.assert_refused(Twice, assembly, narrowed, assembly, list(range(12)) + [0])
        self.assert_refused(NoQuestion, assembly, narrowed, assembly, list(range(13)))
        self.assert_refused(NoQuestion, assembly, narrowed, assembly, list(range(200)))

    def test_a_hundred_folk_are_narrowed_soon(self):
        assembly = met(12, ((wide(12) + chain(12)) * 5)[:100])
        order = list(range(12))
        random.Random(860).shuffle(order)
        told = self.assert_soon(narrowed, assembly, order)
        self.assertEqual(len(folk(told)), 100)
        self.assertEqual(state(table_of(narrowed(told, [order.index(at) for at in range(12)]))),
                         state(filled_with(12, ((wide(12) + chain(12)) * 5)[:100])))


if __name__ == "__main__":
    unittest.main()
