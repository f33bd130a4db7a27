"""The whole program: points [2] to [5] over all of its files, and each name of the interface."""

import importlib
import inspect
import itertools
import unittest

from moot import history, met
from reference import FORTY, SIXTY, WRONG_SIGNS, TableCase, all_rows, bad_texts, chain, facts, filled_with, state, wide
from wapentake import errors
from wapentake.asks import (bearers, deeds, folk, narrowed, oaths_of, pillars, roll, row_of, swearers, sworn_by,
                            table_of, undone)
from wapentake.assembly import Assembly
from wapentake.bonds import bars, bundles, crossing, settled
from wapentake.crowds import common, quarrel, voice
from wapentake.cubes import free_at
from wapentake.desk import Desk
from wapentake.fills import filled, lacks, matching, meeting, rulings
from wapentake.notes import deed_text, read, read_deed, written
from wapentake.oaths import follows, keeping, keeps, torn
from wapentake.rows import differ, go, is_name, is_pattern, is_row, matches, other
from wapentake.table import Table
from wapentake.threes import leads_to, paper
from wapentake.wants import newcomer
from wapentake.ways import box, middle, nearest, neighbours, steps, way

INTERFACE = {
    "rows": "other is_row is_pattern is_name go differ matches", "table": "Table",
    "bonds": "bars settled bundles crossing", "fills": "lacks rulings matching filled meeting",
    "ways": "steps way middle box neighbours nearest", "cubes": "free_at", "crowds": "quarrel voice common",
    "oaths": "keeps torn keeping follows", "assembly": "Assembly",
    "asks": "folk row_of table_of oaths_of swearers sworn_by roll deeds undone bearers pillars narrowed",
    "threes": "paper leads_to", "wants": "newcomer", "notes": "deed_text read_deed written read", "desk": "Desk"}
WRONG_COUNTS = (0, -1, 13, FORTY, -SIXTY)
WRONG_QUESTIONS = (3, 4, 12, -1, -3, FORTY, -FORTY, SIXTY, -SIXTY)
WRONG_ANSWERS = WRONG_SIGNS + ("", "-", "yy", "yn")
BAD_ROWS = bad_texts("nnn", stroke=False)
BAD_PATTERNS = bad_texts("n-n", stroke=True)
THREE = ["ynn", "nyn", "nny"]


def busy():
    """An assembly with folk, oaths, entries of each kind, and deeds to undo and to redo."""
    assembly = met(3, THREE)
    assembly.swear("p0", 0, "y", 1, "n")
    assembly.swear("p1", 1, "y", 0, "n")
    assembly.swear("p1", 1, "y", 2, "n")
    for row in ("nnn", "ynn", "nny", "nyn"):
        assembly.enter(row)
    assembly.strike(3)
    assembly.come("p3", "nnn")
    assembly.leave("p2")
    assembly.come("p2", "nny")
    assembly.enter("nny")
    assembly.undo()
    return assembly


def refusals():
    """For each refusal's class a word and a call that is refused with it."""
    table, assembly = filled_with(3, THREE), busy()
    torn_oaths = [(0, "y", 0, "n"), (0, "n", 0, "y")]
    return {
        "BadCount": ("bad count", Table, 0), "NoQuestion": ("no question", table.count, 3, "y", 0, "y"),
        "BadSign": ("bad sign", other, "x"), "BadRow": ("bad row", table.add, "yy"),
        "BadPattern": ("bad pattern", matching, table, "y"), "NoRow": ("no row", table.take, "yyy"),
        "NotBorne": ("not borne", steps, table, "yyy", "nnn"), "Empty": ("empty", filled, Table(1), "-"),
        "Unmatched": ("unmatched", nearest, table, "nnn", "yy-"), "NoBundle": ("no bundle", free_at, table, [3]),
        "Twice": ("told twice", free_at, table, [1, 1]), "BadWeight": ("bad weight", voice, table, [("nnn", 0)]),
        "Even": ("even", voice, table, []), "Torn": ("torn", follows, 1, torn_oaths, 0, "y", 0, "y"),
        "BadName": ("bad name", assembly.come, "P9", "nnn"), "Taken": ("taken", assembly.come, "p0", "nnn"),
        "Broken": ("broken", assembly.come, "p9", "yyn"), "NoPerson": ("no person", assembly.leave, "p9"),
        "Same": ("the same", assembly.turn, "p0", 0, "y"), "Sworn": ("sworn", assembly.swear, "p0", 1, "y", 0, "n"),
        "NoOath": ("no oath", swearers, assembly, 7), "NotSworn": ("not sworn", assembly.recant, "p0", 1),
        "Entered": ("entered", assembly.enter, "ynn"), "NoEntry": ("no entry", assembly.strike, 9),
        "NotStanding": ("not standing", assembly.strike, 3), "BadWalk": ("bad walk", leads_to, assembly, []),
        "Borne": ("borne", newcomer, assembly, "p0", "nnn"), "NothingLeft": ("nothing left", Assembly(1).undo),
        "BadText": ("bad text", read_deed, "come")}


class TestInterface(TableCase):
    def test_each_name_is_there(self):
        for module, names in INTERFACE.items():
            for name in names.split():
                thing = getattr(importlib.import_module(f"wapentake.{module}"), name)
                self.assertEqual(thing.__module__, f"wapentake.{module}")
                self.assertTrue(inspect.isclass(thing) if name[0].isupper() else inspect.isfunction(thing))

    def test_fields(self):
        for questions in (1, 12):
            self.assertEqual(Table(questions).questions, questions)
            self.assertEqual(Assembly(questions).questions, questions)
            self.assertEqual(Desk(questions).assembly.questions, questions)
            self.assertEqual(Table(questions).twin().questions, questions)
            self.assertEqual(Assembly(questions).twin().questions, questions)
            self.assertEqual(table_of(Assembly(questions)).questions, questions)


class TestRefusals(TableCase):
    def test_each_of_the_twenty_nine_by_its_class_and_word(self):
        calls = refusals()
        classes = {name for name, thing in inspect.getmembers(errors, inspect.isclass)} - {"WapentakeError"}
        self.assertEqual(set(calls), classes)
        self.assertEqual(len(calls), 29)
        for name, (word, deed, *handed) in calls.items():
            with self.subTest(name):
                with self.assertRaises(errors.WapentakeError) as caught:
                    deed(*handed)
                self.assertIs(type(caught.exception), getattr(errors, name))
                self.assertEqual(caught.exception.word, word)
                self.assertEqual(type(caught.exception).__bases__, (errors.WapentakeError,))

    def test_counts(self):
        for count in WRONG_COUNTS:
            for deed, *handed in ((Table, count), (Assembly, count), (Desk, count), (is_row, "y", count),
                                  (is_pattern, "-", count), (torn, count, []), (keeping, count, [], "y"),
                                  (follows, count, [], 0, "y", 0, "y")):
                self.assert_refused(errors.BadCount, Table(1), deed, *handed)
            if count >= 0 and count < FORTY:
                self.assert_refused(errors.BadCount, Table(1), read, f"assembly {count}")
        self.assert_refused(errors.BadCount, busy(), narrowed, busy(), [])

    def test_rows(self):
        table, assembly = filled_with(3, THREE), busy()
        before = history(assembly)
        for bad in BAD_ROWS:
            for deed, *handed in (
                    (table.add, bad), (table.take, bad), (lacks, table, bad), (steps, table, bad, "nnn"),
                    (steps, table, "nnn", bad), (way, table, bad, "nnn"), (way, table, "nnn", bad),
                    (middle, table, bad, "nnn", "nnn"), (middle, table, "nnn", bad, "nnn"),
                    (middle, table, "nnn", "nnn", bad), (box, table, bad, "nnn"), (box, table, "nnn", bad),
                    (neighbours, table, bad), (nearest, table, bad, "---"), (voice, table, [(bad, 1)])):
                self.assert_refused(errors.BadRow, table, deed, *handed)
            for deed, *handed in ((assembly.come, "new", bad), (assembly.enter, bad), (bearers, assembly, bad, 0, 0),
                                  (pillars, assembly, bad), (paper, assembly, bad), (newcomer, assembly, "p0", bad)):
                self.assert_refused(errors.BadRow, assembly, deed, *handed)
            self.assertIs(is_row(bad, 3), False)
        self.assertEqual(history(assembly), before)

    def test_patterns(self):
        table = filled_with(3, THREE)
        for bad in BAD_PATTERNS:
            for deed, *handed in ((matching, table, bad), (filled, table, bad), (meeting, table, [bad]),
                                  (meeting, table, ["---", bad]), (nearest, table, "nnn", bad), (keeping, 3, [], bad)):
                self.assert_refused(errors.BadPattern, table, deed, *handed)
            self.assertIs(is_pattern(bad, 3), False)

    def test_questions(self):
        table, assembly = filled_with(3, THREE), busy()
        for bad in WRONG_QUESTIONS:
            self.assert_refused(errors.NoQuestion, table, table.count, bad, "y", 0, "y")
            self.assert_refused(errors.NoQuestion, table, table.count, 0, "y", bad, "y")
            oath, back = (bad, "y", 0, "y"), (0, "y", bad, "y")
            for deed, *handed in (
                    (torn, 3, [oath]), (torn, 3, [back]), (keeping, 3, [oath], "---"), (keeping, 3, [back], "---"),
                    (follows, 3, [oath], 0, "y", 0, "y"), (follows, 3, [back], 0, "y", 0, "y"),
                    (follows, 3, [], *oath), (follows, 3, [], *back), (assembly.turn, "p0", bad, "y"),
                    (assembly.swear, "p0", *oath), (assembly.swear, "p0", *back), (bearers, assembly, "nnn", bad, 0),
                    (bearers, assembly, "nnn", 0, bad), (narrowed, assembly, [bad]), (narrowed, assembly, [0, bad])):
                self.assert_refused(errors.NoQuestion, assembly, deed, *handed)

    def test_signs(self):
        table, assembly = filled_with(3, THREE), busy()
        for bad in WRONG_ANSWERS:
            self.assert_refused(errors.BadSign, table, other, bad)
            self.assert_refused(errors.BadSign, table, table.count, 0, bad, 0, "y")
            self.assert_refused(errors.BadSign, table, table.count, 0, "y", 0, bad)
            oath, back = (0, bad, 0, "y"), (0, "y", 0, bad)
            for deed, *handed in (
                    (torn, 3, [oath]), (torn, 3, [back]), (keeping, 3, [oath], "---"), (keeping, 3, [back], "---"),
                    (follows, 3, [oath], 0, "y", 0, "y"), (follows, 3, [back], 0, "y", 0, "y"),
                    (follows, 3, [], *oath), (follows, 3, [], *back), (assembly.turn, "p0", 0, bad),
                    (assembly.swear, "p0", *oath), (assembly.swear, "p0", *back)):
                self.assert_refused(errors.BadSign, assembly, deed, *handed)


class TestOwn(TableCase):
    def test_what_a_table_is_asked_for(self):
        table = filled_with(3, THREE + ["yyy"])
        sworn = [(0, "y", 1, "y"), (1, "y", 0, "n"), (0, "n", 1, "n"), (1, "n", 0, "y")]
        for deed, *handed in (
                (bars,), (settled,), (bundles,), (crossing,), (lacks, "yyn"), (rulings,), (matching, "n--"),
                (filled, "n--"), (meeting, ["n--", "-n-"]), (way, "nnn", "yyy"), (box, "nnn", "yyy"),
                (middle, "nnn", "yyy", "nny"), (neighbours, "nnn"), (nearest, "nnn", "y--"), (free_at, [0]),
                (voice, [("nnn", 2), ("yyy", 1)]), (common,)):
            self.assert_own(table, deed, *handed)
        for deed, *handed in (
                (torn, 3, sworn), (keeping, 3, sworn[:2], "---"), (follows, 3, sworn[:2], 0, "n", 0, "n"),
                (quarrel, [("nnn", 2), ("yyy", 1)], "nny"), (keeps, "nnn", sworn), (differ, "nny", "yyy")):
            self.assert_own(table, lambda thing, *rest, deed=deed: deed(*rest), *handed)

    def test_what_an_assembly_is_asked_for(self):
        assembly = busy()
        for deed, *handed in (
                (folk,), (row_of, "p0"), (oaths_of,), (swearers, 0), (sworn_by, "p1"), (roll,), (deeds,), (undone,),
                (bearers, "nnn", 0, 1), (pillars, "ynn"), (paper, "nnn"), (paper, "yyy"), (written,),
                (leads_to, [("p0", "p1", "p2"), (0, "p1", "p1")]), (newcomer, "p0", "yny")):
            before = history(assembly)
            self.assert_own(assembly, deed, *handed)
            self.assertEqual(history(assembly), before)

    def test_told_tables_twins_and_assemblies(self):
        assembly = busy()
        before = history(assembly)
        for told in (table_of(assembly), table_of(assembly).twin()):
            told.add("yyy")
            told.take("nnn")
        for told in (assembly.twin(), narrowed(assembly, [0, 1, 2]), read(written(assembly)), assembly.twin().twin()):
            told.leave("p0")
            told.come("p9", "nnn")
            told.swear("p9", 0, "y", 2, "n")
            while deeds(told):
                told.undo()
            self.assertEqual(history(assembly), before)
        self.assertEqual(history(assembly), before)

    def test_objects_have_nothing_to_do_with_one_another(self):
        tables, assemblies, desks = [[kind(3) for each in range(2)] for kind in (Table, Assembly, Desk)]
        for row in THREE:
            tables[0].add(row)
        assemblies[0].come("ada", "yyn")
        desks[0].say("come ada yyn")
        for one, two in (tables, assemblies, [desk.assembly for desk in desks]):
            self.assertNotEqual(state(one), state(two))
        self.assertEqual((state(tables[1]), facts(assemblies[1])), (state(Table(3)), facts(Assembly(3))))
        self.assertEqual(facts(desks[1].assembly), facts(Assembly(3)))

    def test_lists_that_were_handed_in_and_changed_later_change_nothing(self):
        assembly = busy()
        questions, walk = [2, 0], [("p0", "p1", "p2")]
        told = narrowed(assembly, questions)
        kept = facts(told)
        leads_to(assembly, walk)
        questions.append(1)
        walk.append((0, 0, 0))
        self.assertEqual(facts(told), kept)


class TestTogether(TableCase):
    def test_the_voice_of_an_assembly_is_a_ruling_with_a_paper(self):
        for rows in (chain(6)[:5], wide(6)[:7], THREE, ["yn", "ny", "nn"]):
            assembly = met(len(rows[0]), rows)
            table = table_of(assembly)
            told = voice(table, [(row_of(assembly, name), 1) for name in folk(assembly)])
            self.assertEqual(told, common(table))
            self.assertEqual(lacks(table, told), [])
            self.assertEqual(leads_to(assembly, paper(assembly, told)[1]), told)

    def test_rulings_lacks_papers_and_desks_agree(self):
        assembly, desk = busy(), Desk(3)
        for name in folk(assembly):
            desk.say(deed_text(("come", name, row_of(assembly, name))))
        borne = rulings(table_of(assembly))
        for row in all_rows(3):
            self.assertEqual(row in borne, lacks(table_of(assembly), row) == [])
            self.assertEqual(row in borne, paper(assembly, row)[0] == "walk")
            self.assertEqual(row in borne, desk.say(f"ruling {row}") == "yes")

    def test_threes_of_rulings_are_rulings(self):
        table = table_of(busy())
        for three in itertools.product(rulings(table), repeat=3):
            self.assertEqual(go(*three), middle(table, *three))
            self.assertIn(go(*three), rulings(table))

    def test_names_and_patterns(self):
        for text in ("a", "a1", "A", "", "1a", "a" * 12, "a" * 13):
            assembly = Assembly(1)
            if is_name(text):
                assembly.come(text, "y")
            self.assertEqual(folk(assembly), [text] if is_name(text) else [])
        self.assertTrue(all(matches(row, "n--") for row in matching(table_of(busy()), "n--")))

    def test_twelve_questions_a_hundred_folk_and_all_rulings_are_answered_soon(self):
        assembly = met(12, (wide(12) * 10)[:100])
        table = self.assert_soon(table_of, assembly)
        self.assertEqual(len(self.assert_soon(rulings, table)), 4096)
        for deed, *handed in ((bars,), (settled,), (bundles,), (crossing,), (lacks, "y" * 12), (matching, "-" * 12),
                              (box, "n" * 12, "y" * 12), (way, "n" * 12, "y" * 12), (neighbours, "yn" * 6),
                              (nearest, "y" * 12, "n" * 6 + "-" * 6), (free_at, list(range(12))), (common,)):
            self.assert_soon(deed, table, *handed)
        for deed, *handed in ((paper, "yn" * 6), (pillars, "yn" * 6), (bearers, "yn" * 6, 3, 9), (written,),
                              (narrowed, list(range(12))), (folk,), (roll,), (deeds,)):
            self.assert_soon(deed, assembly, *handed)


if __name__ == "__main__":
    unittest.main()
