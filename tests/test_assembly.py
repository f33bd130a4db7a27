"""Folk, oaths, the roll, undoing and redoing: points [2] to [6], [17] to [21] and wapentake/assembly.py."""

import itertools
import random
import unittest

from moot import NAMES, WRONG_NAMES, Moot, do, drawn_deeds, history, outcome
from reference import (FORTY, OTHER, SIXTY, WRONG_SIGNS, TableCase, all_rows, bad_texts, chain, facts, holds,
                       wide)
from wapentake.asks import deeds, folk, oaths_of, roll, row_of, swearers, sworn_by, table_of, undone
from wapentake.assembly import Assembly
from wapentake.errors import (BadCount, BadName, BadRow, BadSign, Broken, Entered, NoEntry, NoOath, NoPerson,
                              NoQuestion, NotBorne, NothingLeft, NotStanding, NotSworn, Same, Sworn, Taken)
from wapentake.fills import lacks, rulings

WRONG_NUMBERS = (-1, -2, FORTY, -FORTY, SIXTY, -SIXTY)


def with_folk(questions, **rows):
    """An assembly to which these have come."""
    assembly = Assembly(questions)
    for name, row in rows.items():
        assembly.come(name, row)
    return assembly


def full(step_back=True):
    """An assembly in which each kind of deed stands, and one that was undone waits."""
    assembly = with_folk(3, ada="yyn", bo="nyn", cy="ynn")
    assembly.swear("ada", 0, "n", 1, "y")
    assembly.swear("bo", 2, "y", 0, "y")
    assembly.swear("cy", 1, "n", 0, "y")
    assembly.swear("cy", 0, "n", 2, "n")
    assembly.enter("yyn")
    assembly.enter("nyn")
    assembly.enter("ynn")
    assembly.strike(0)
    assembly.recant("bo", 1)
    assembly.come("di", "yyy")
    assembly.enter("yyy")
    assembly.turn("di", 2, "n")
    assembly.leave("bo")
    assembly.come("bo", "nyn")
    if step_back:
        assembly.undo()
    return assembly


class AssemblyCase(TableCase):
    def refused(self, error, assembly, word, *handed):
        before = history(assembly)
        self.assert_refused(error, assembly, getattr(assembly, word), *handed)
        self.assertEqual(history(assembly), before)


class TestInterface(AssemblyCase):
    def test_the_arguments_are_called_as_told(self):
        self.assert_arguments(Assembly(1), {
            "come": "name row", "leave": "name", "turn": "name question sign", "swear": "name q a r b",
            "recant": "name number", "enter": "row", "strike": "number", "undo": "", "redo": "", "twin": ""})
        self.assertEqual(Assembly(questions=3).questions, 3)

    def test_counts(self):
        for questions in range(1, 13):
            assembly = Assembly(questions)
            self.assertEqual(assembly.questions, questions)
            self.assertEqual((folk(assembly), oaths_of(assembly), roll(assembly)), ([], [], []))
            self.assertEqual((deeds(assembly), undone(assembly), table_of(assembly).many()), ([], [], 0))
        for questions in (0, 13) + WRONG_NUMBERS:
            with self.assertRaises(BadCount) as caught:
                Assembly(questions)
            self.assertIs(type(caught.exception), BadCount)

    def test_what_deeds_tell(self):
        assembly = Assembly(2)
        self.assertIsNone(assembly.come("ada", "yn"))
        self.assertIsNone(assembly.come("bo", "nn"))
        self.assertEqual(assembly.swear("ada", 0, "y", 1, "n"), 0)
        self.assertEqual(assembly.enter("yn"), 0)
        self.assertEqual(assembly.enter("nn"), 1)
        self.assertIsNone(assembly.strike(0))
        self.assertIsNone(assembly.recant("ada", 0))
        self.assertEqual(assembly.turn("ada", 1, "y"), [])
        self.assertEqual(assembly.leave("bo"), [1])
        self.assertEqual(assembly.undo(), ("leave", "bo"))
        self.assertEqual(assembly.undo(), ("turn", "ada", 1, "y"))
        self.assertEqual(assembly.undo(), ("recant", "ada", 0))
        self.assertEqual(assembly.undo(), ("strike", 0))
        self.assertEqual(assembly.undo(), ("enter", "nn"))
        self.assertEqual(assembly.redo(), ("enter", "nn"))
        self.assertEqual(assembly.undo(), ("enter", "nn"))
        self.assertEqual(assembly.undo(), ("enter", "yn"))
        self.assertEqual(assembly.undo(), ("swear", "ada", 0, "y", 1, "n"))
        self.assertEqual(assembly.undo(), ("come", "bo", "nn"))
        self.assertEqual(assembly.redo(), ("come", "bo", "nn"))

    def test_what_a_deed_tells_is_the_askers_own(self):
        assembly = with_folk(1, ada="y", bo="n")
        assembly.enter("y")
        fell = assembly.leave("ada")
        self.assertEqual(fell, [0])
        fell.append(5)
        assembly.undo()
        self.assertEqual(assembly.redo(), ("leave", "ada"))
        self.assertEqual(roll(assembly), [(0, "y", "fallen", (0, 0))])
        none = assembly.turn("bo", 0, "y")
        none.append(7)
        self.assertEqual(assembly.turn("bo", 0, "n"), [])


class TestComing(AssemblyCase):
    def test_folk_in_the_order_of_their_coming(self):
        assembly = with_folk(2, zed="yn", ada="yn", m="ny")
        self.assertEqual(folk(assembly), ["zed", "ada", "m"])
        self.assertEqual([row_of(assembly, name) for name in folk(assembly)], ["yn", "yn", "ny"])
        self.assertEqual(table_of(assembly).rows(), ["ny", "yn", "yn"])

    def test_names_of_each_form(self):
        assembly = Assembly(1)
        names = ["a", "z", "a0", "z9", "abcdefghijkl", "a12345678901"] + list(NAMES)
        for name in names:
            assembly.come(name, "y")
        self.assertEqual(folk(assembly), names)

    def test_bad_names(self):
        assembly = full()
        for name in WRONG_NAMES + ("a" * 13, "a" * 400, "A", "aB", "9", "a.", "\n", "a\nb", "{", "`", "a/", "a:"):
            self.refused(BadName, assembly, "come", name, "yyn")

    def test_taken(self):
        self.refused(Taken, full(), "come", "ada", "nyn")
        self.refused(Taken, full(step_back=False), "come", "bo", "nyn")

    def test_bad_rows(self):
        assembly = full()
        for row in bad_texts("yyn", stroke=False):
            self.refused(BadRow, assembly, "come", "ed", row)

    def test_broken(self):
        assembly = with_folk(3, ada="yyn")
        assembly.swear("ada", 0, "y", 1, "y")
        assembly.swear("ada", 2, "y", 2, "n")
        for row in all_rows(3):
            if row[:2] == "yn" or row[2] == "y":
                self.refused(Broken, assembly, "come", "bo", row)
            else:
                twin = assembly.twin()
                twin.come("bo", row)
                self.assertEqual(row_of(twin, "bo"), row)

    def test_the_refusal_told_first(self):
        assembly = with_folk(2, ada="yy")
        assembly.swear("ada", 0, "y", 1, "y")
        self.refused(BadName, assembly, "come", "Ada", "maybe")
        self.refused(BadName, assembly, "come", "", "yn")
        self.refused(Taken, assembly, "come", "ada", "maybe")
        self.refused(Taken, assembly, "come", "ada", "yn")
        self.refused(BadRow, assembly, "come", "bo", "y-")
        self.refused(Broken, assembly, "come", "bo", "yn")


class TestLeaving(AssemblyCase):
    def test_a_name_that_left_may_come_again_behind_all_others(self):
        assembly = with_folk(1, ada="y", bo="n", cy="y")
        assembly.leave("ada")
        self.assertEqual(folk(assembly), ["bo", "cy"])
        assembly.come("ada", "n")
        self.assertEqual(folk(assembly), ["bo", "cy", "ada"])
        self.assertEqual(row_of(assembly, "ada"), "n")
        assembly.leave("cy")
        assembly.come("cy", "n")
        self.assertEqual(folk(assembly), ["bo", "ada", "cy"])

    def test_nobody(self):
        assembly = full()
        for name in ("bo", "ed", "", "Ada", "ada ", "a" * 400):
            self.refused(NoPerson, assembly, "leave", name)
        self.refused(NoPerson, Assembly(1), "leave", "ada")

    def test_the_last_one_may_leave(self):
        assembly = with_folk(2, ada="yn")
        assembly.enter("yn")
        self.assertEqual(assembly.leave("ada"), [0])
        self.assertEqual((folk(assembly), table_of(assembly).many()), ([], 0))
        self.assertEqual(roll(assembly), [(0, "yn", "fallen", (0, 0))])

    def test_whoever_leaves_takes_back_all_oaths(self):
        assembly = with_folk(2, ada="yy", bo="yy")
        assembly.swear("ada", 0, "y", 1, "y")
        assembly.swear("bo", 0, "y", 1, "y")
        assembly.swear("ada", 1, "n", 1, "y")
        assembly.leave("ada")
        self.assertEqual(oaths_of(assembly), [(0, 0, "y", 1, "y")])
        self.assertEqual(swearers(assembly, 0), ["bo"])
        assembly.come("ada", "nn")
        self.assertEqual(sworn_by(assembly, "ada"), [])
        assembly.leave("bo")
        self.assertEqual(oaths_of(assembly), [])
        assembly.turn("ada", 0, "y")
        self.assertEqual(row_of(assembly, "ada"), "yn")


class TestTurning(AssemblyCase):
    def test_one_answer_is_turned_and_the_order_stays(self):
        assembly = with_folk(3, ada="yyn", bo="nnn")
        self.assertEqual(assembly.turn("ada", 1, "n"), [])
        self.assertEqual(assembly.turn("ada", 2, "y"), [])
        self.assertEqual((folk(assembly), row_of(assembly, "ada")), (["ada", "bo"], "yny"))
        self.assertEqual(table_of(assembly).rows(), ["nnn", "yny"])

    def test_refusals(self):
        assembly = full()
        for name in ("bo", "", "Ada"):
            self.refused(NoPerson, assembly, "turn", name, 0, "y")
        for question in (3, 4) + WRONG_NUMBERS:
            self.refused(NoQuestion, assembly, "turn", "ada", question, "y")
        for sign in WRONG_SIGNS + ("", "-", "yn"):
            self.refused(BadSign, assembly, "turn", "ada", 0, sign)
        for question, sign in enumerate("yyn"):
            self.refused(Same, assembly, "turn", "ada", question, sign)

    def test_broken(self):
        assembly = with_folk(2, ada="yy", bo="nn")
        assembly.swear("bo", 0, "y", 1, "y")
        self.refused(Broken, assembly, "turn", "ada", 1, "n")
        self.refused(Broken, assembly, "turn", "bo", 0, "y")
        assembly.turn("ada", 0, "n")
        assembly.turn("bo", 1, "y")
        self.assertEqual([row_of(assembly, name) for name in ("ada", "bo")], ["ny", "ny"])

    def test_the_refusal_told_first(self):
        assembly = with_folk(2, ada="yy")
        assembly.swear("ada", 0, "y", 1, "y")
        self.refused(NoPerson, assembly, "turn", "bo", 2, "x")
        self.refused(NoQuestion, assembly, "turn", "ada", 2, "x")
        self.refused(BadSign, assembly, "turn", "ada", 1, "x")
        self.refused(Same, assembly, "turn", "ada", 1, "y")
        self.refused(Broken, assembly, "turn", "ada", 1, "n")


class TestSwearing(AssemblyCase):
    def test_numbers_and_forms(self):
        assembly = with_folk(3, ada="yyn", bo="nyn")
        self.assertEqual(assembly.swear("ada", 0, "y", 1, "y"), 0)
        self.assertEqual(assembly.swear("ada", 2, "y", 0, "n"), 1)
        self.assertEqual(assembly.swear("bo", 2, "y", 2, "n"), 2)
        self.assertEqual(oaths_of(assembly), [(0, 0, "y", 1, "y"), (1, 2, "y", 0, "n"), (2, 2, "y", 2, "n")])
        self.assertEqual(sworn_by(assembly, "ada"), [0, 1])
        self.assertEqual(sworn_by(assembly, "bo"), [2])

    def test_joining_in_either_form(self):
        assembly = with_folk(2, ada="yy", bo="nn", cy="ny")
        self.assertEqual(assembly.swear("bo", 0, "y", 1, "y"), 0)
        self.assertEqual(assembly.swear("ada", 1, "n", 0, "n"), 0)
        self.assertEqual(assembly.swear("cy", 0, "y", 1, "y"), 0)
        self.assertEqual(oaths_of(assembly), [(0, 0, "y", 1, "y")])
        self.assertEqual(swearers(assembly, 0), ["bo", "ada", "cy"])

    def test_the_form_stays_the_first_one_when_its_swearer_takes_it_back(self):
        assembly = with_folk(2, ada="yy", bo="nn")
        assembly.swear("ada", 1, "n", 0, "n")
        assembly.swear("bo", 0, "y", 1, "y")
        assembly.recant("ada", 0)
        self.assertEqual(oaths_of(assembly), [(0, 1, "n", 0, "n")])
        assembly.swear("ada", 0, "y", 1, "y")
        self.assertEqual(swearers(assembly, 0), ["bo", "ada"])

    def test_each_oath_has_just_its_other_side_for_the_same(self):
        every = list(itertools.product(range(2), "ny", range(2), "ny"))
        for row, one, two in itertools.product(all_rows(2), every, every):
            assembly = with_folk(2, ada=row, bo=row)
            if holds(row, one) and holds(row, two):
                q, a, r, b = two
                same = one in (two, (r, OTHER[b], q, OTHER[a]))
                assembly.swear("ada", *one)
                self.assertEqual(assembly.swear("bo", *two), 0 if same else 1)
                self.assertEqual(len(oaths_of(assembly)), 1 if same else 2)

    def test_an_oath_of_one_question_and_itself(self):
        assembly = with_folk(1, ada="y", bo="n")
        self.assertEqual(assembly.swear("ada", 0, "y", 0, "y"), 0)
        self.refused(Sworn, assembly, "swear", "ada", 0, "n", 0, "n")
        self.assertEqual(assembly.swear("bo", 0, "n", 0, "n"), 0)
        self.refused(Broken, assembly, "swear", "ada", 0, "y", 0, "n")
        assembly.leave("ada")
        self.assertEqual(assembly.swear("bo", 0, "y", 0, "n"), 1)
        self.refused(Broken, assembly, "come", "ada", "y")

    def test_refusals(self):
        assembly = full()
        for name in ("bo", "", "Ada"):
            self.refused(NoPerson, assembly, "swear", name, 0, "y", 0, "y")
        for number in (3, 4) + WRONG_NUMBERS:
            self.refused(NoQuestion, assembly, "swear", "ada", number, "y", 0, "y")
            self.refused(NoQuestion, assembly, "swear", "ada", 0, "y", number, "y")
        for sign in WRONG_SIGNS + ("", "-", "yn"):
            self.refused(BadSign, assembly, "swear", "ada", 0, sign, 0, "y")
            self.refused(BadSign, assembly, "swear", "ada", 0, "y", 0, sign)

    def test_broken_by_anybody_there(self):
        assembly = with_folk(2, ada="yy", bo="yn", cy="ny")
        self.refused(Broken, assembly, "swear", "ada", 0, "y", 1, "y")
        self.refused(Broken, assembly, "swear", "bo", 0, "y", 1, "y")
        self.refused(Broken, assembly, "swear", "cy", 0, "y", 1, "y")
        assembly.leave("bo")
        self.assertEqual(assembly.swear("ada", 0, "y", 1, "y"), 0)

    def test_the_refusal_told_first(self):
        assembly = with_folk(2, ada="yy")
        assembly.swear("ada", 0, "y", 1, "y")
        self.refused(NoPerson, assembly, "swear", "bo", 2, "x", 2, "x")
        self.refused(NoQuestion, assembly, "swear", "ada", 0, "x", 2, "y")
        self.refused(NoQuestion, assembly, "swear", "ada", 2, "y", 0, "x")
        self.refused(BadSign, assembly, "swear", "ada", 0, "y", 1, "x")
        self.refused(Broken, assembly, "swear", "ada", 0, "y", 1, "n")
        self.refused(Sworn, assembly, "swear", "ada", 0, "y", 1, "y")
        self.refused(Sworn, assembly, "swear", "ada", 1, "n", 0, "n")


class TestTakingBack(AssemblyCase):
    def test_an_oath_goes_with_the_last_who_swore_it(self):
        assembly = with_folk(2, ada="yy", bo="yy")
        assembly.swear("ada", 0, "y", 1, "y")
        assembly.swear("bo", 0, "y", 1, "y")
        assembly.recant("ada", 0)
        self.refused(NotSworn, assembly, "recant", "ada", 0)
        self.refused(Broken, assembly, "turn", "ada", 1, "n")
        assembly.recant("bo", 0)
        self.assertEqual(oaths_of(assembly), [])
        self.refused(NoOath, assembly, "recant", "bo", 0)
        assembly.turn("ada", 1, "n")
        self.assertEqual(row_of(assembly, "ada"), "yn")

    def test_a_number_does_not_come_again(self):
        assembly = with_folk(2, ada="yy", bo="yy")
        self.assertEqual(assembly.swear("ada", 0, "y", 1, "y"), 0)
        assembly.recant("ada", 0)
        self.assertEqual(assembly.swear("ada", 0, "y", 1, "y"), 1)
        self.assertEqual(assembly.swear("bo", 1, "y", 0, "y"), 2)
        assembly.leave("ada")
        assembly.leave("bo")
        assembly.come("ada", "yy")
        self.assertEqual(assembly.swear("ada", 1, "y", 0, "y"), 3)
        self.assertEqual(oaths_of(assembly), [(3, 1, "y", 0, "y")])

    def test_refusals(self):
        assembly = full()
        self.assertEqual([oath[0] for oath in oaths_of(assembly)], [0, 1])
        for name in ("bo", "", "Ada"):
            self.refused(NoPerson, assembly, "recant", name, 0)
        for number in (2, 3) + WRONG_NUMBERS:
            self.refused(NoOath, assembly, "recant", "ada", number)
        self.refused(NotSworn, assembly, "recant", "di", 0)
        self.refused(NotSworn, assembly, "recant", "ada", 1)

    def test_the_refusal_told_first(self):
        assembly = with_folk(2, ada="yy", bo="yy")
        assembly.swear("ada", 0, "y", 1, "y")
        self.refused(NoPerson, assembly, "recant", "cy", 7)
        self.refused(NoOath, assembly, "recant", "bo", 7)
        self.refused(NotSworn, assembly, "recant", "bo", 0)

    def test_all_rulings_keep_all_standing_oaths(self):
        for seed in range(12):
            assembly = Assembly(4)
            for deed in drawn_deeds(4, 60, seed=500 + seed):
                outcome(do, assembly, deed)
                for ruling in rulings(table_of(assembly)):
                    for number, *oath in oaths_of(assembly):
                        self.assertTrue(holds(ruling, oath))


class TestTheRoll(AssemblyCase):
    def test_any_ruling_is_entered(self):
        assembly = with_folk(3, ada="ynn", bo="nyn", cy="nny")
        self.assertEqual([assembly.enter(row) for row in ("nnn", "nny", "ynn")], [0, 1, 2])
        self.assertEqual(roll(assembly), [(0, "nnn", "standing", None), (1, "nny", "standing", None),
                                          (2, "ynn", "standing", None)])

    def test_refusals(self):
        assembly = with_folk(3, ada="ynn", bo="nyn", cy="nny")
        assembly.enter("nnn")
        for row in bad_texts("nnn", stroke=False):
            self.refused(BadRow, assembly, "enter", row)
        for row in ("yyn", "yyy", "nyy", "yny"):
            self.refused(NotBorne, assembly, "enter", row)
        self.refused(Entered, assembly, "enter", "nnn")
        self.refused(NotBorne, Assembly(1), "enter", "y")
        self.refused(BadRow, Assembly(1), "enter", "yy")
        for number in (1, 2) + WRONG_NUMBERS:
            self.refused(NoEntry, assembly, "strike", number)
        assembly.strike(0)
        self.refused(NotStanding, assembly, "strike", 0)
        self.refused(NoEntry, Assembly(1), "strike", 0)

    def test_a_struck_one_stays_struck_and_its_row_may_be_entered_anew(self):
        assembly = with_folk(1, ada="y")
        assembly.enter("y")
        assembly.strike(0)
        self.assertEqual(roll(assembly), [(0, "y", "struck", None)])
        self.assertEqual(assembly.enter("y"), 1)
        self.refused(Entered, assembly, "enter", "y")
        self.assertEqual(assembly.leave("ada"), [1])
        self.assertEqual(roll(assembly), [(0, "y", "struck", None), (1, "y", "fallen", (0, 0))])

    def test_entries_fall_by_a_leaving_with_their_lowest_lack(self):
        assembly = with_folk(3, ada="ynn", bo="nyn", cy="nny")
        for row in ("nnn", "nny", "ynn", "nyn"):
            assembly.enter(row)
        self.assertEqual(assembly.leave("cy"), [0, 1])
        self.assertEqual(roll(assembly), [(0, "nnn", "fallen", (0, 1)), (1, "nny", "fallen", (0, 1)),
                                          (2, "ynn", "standing", None), (3, "nyn", "standing", None)])

    def test_entries_fall_by_a_turning_with_their_lowest_lack(self):
        assembly = with_folk(3, ada="ynn", bo="nyn", cy="nny")
        for row in ("nnn", "nny", "ynn", "nyn"):
            assembly.enter(row)
        self.assertEqual(assembly.turn("cy", 2, "n"), [1])
        self.assertEqual(roll(assembly)[1], (1, "nny", "fallen", (0, 2)))
        self.assertEqual(assembly.turn("bo", 0, "y"), [3])
        self.assertEqual(roll(assembly)[3], (3, "nyn", "fallen", (0, 1)))
        self.assertEqual(assembly.turn("cy", 1, "y"), [0])
        self.assertEqual(roll(assembly)[0], (0, "nnn", "fallen", (0, 1)))

    def test_a_fallen_one_stays_fallen_and_its_row_may_be_entered_anew(self):
        assembly = with_folk(2, ada="yn", bo="nn")
        assembly.enter("yn")
        self.assertEqual(assembly.turn("ada", 0, "n"), [0])
        self.refused(NotStanding, assembly, "strike", 0)
        self.refused(NotBorne, assembly, "enter", "yn")
        assembly.turn("ada", 0, "y")
        self.assertEqual(roll(assembly), [(0, "yn", "fallen", (0, 0))])
        self.refused(NotStanding, assembly, "strike", 0)
        self.assertEqual(assembly.enter("yn"), 1)
        self.assertEqual(assembly.leave("ada"), [1])
        self.assertEqual(roll(assembly), [(0, "yn", "fallen", (0, 0)), (1, "yn", "fallen", (0, 0))])

    def test_a_fallen_one_keeps_the_lack_that_it_fell_with(self):
        assembly = with_folk(2, ada="yy", bo="yn", cy="ny")
        assembly.enter("yy")
        self.assertEqual(assembly.turn("ada", 0, "n"), [0])
        self.assertEqual(roll(assembly), [(0, "yy", "fallen", (0, 1))])
        self.assertEqual(assembly.turn("bo", 0, "n"), [])
        self.assertEqual(roll(assembly), [(0, "yy", "fallen", (0, 1))])

    def test_nothing_falls_while_another_bears_it(self):
        assembly = with_folk(2, ada="yn", bo="yn")
        assembly.enter("yn")
        self.assertEqual(assembly.leave("ada"), [])
        self.assertEqual(assembly.turn("bo", 1, "y"), [0])

    def test_lacks_of_drawn_rolls(self):
        for seed in range(10):
            draw = random.Random(520 + seed)
            assembly = Assembly(5)
            for number in range(8):
                assembly.come(f"p{number}", draw.choice(all_rows(5)))
            for row in rulings(table_of(assembly)):
                assembly.enter(row)
            for name in folk(assembly):
                before = roll(assembly)
                fell = assembly.leave(name)
                table = table_of(assembly)
                for old, new in zip(before, roll(assembly)):
                    falls = old[2] == "standing" and bool(lacks(table, old[1]))
                    lack = min(lacks(table, old[1])) if falls else old[3]
                    self.assertEqual(new, (old[0], old[1], "fallen" if falls else old[2], lack))
                    self.assertEqual(old[0] in fell, falls)


class TestUndoing(AssemblyCase):
    def test_nothing_left(self):
        assembly = Assembly(1)
        self.refused(NothingLeft, assembly, "undo")
        self.refused(NothingLeft, assembly, "redo")
        assembly.come("ada", "y")
        self.refused(NothingLeft, assembly, "redo")
        assembly.undo()
        self.refused(NothingLeft, assembly, "undo")
        assembly.redo()
        self.refused(NothingLeft, assembly, "redo")

    def test_each_kind_of_deed_back_to_the_beginning_and_on_to_the_end(self):
        done = deeds(full(step_back=False))
        self.assertEqual({deed[0] for deed in done}, {"come", "leave", "turn", "swear", "recant", "enter", "strike"})
        assembly = Assembly(3)
        seen = [facts(assembly)]
        for deed in done:
            do(assembly, deed)
            seen.append(facts(assembly))
        for each in range(2):
            for at in reversed(range(len(done))):
                self.assertEqual(assembly.undo(), done[at])
                self.assertEqual(facts(assembly), dict(seen[at], undone=done[at:]))
            self.refused(NothingLeft, assembly, "undo")
            for at in range(len(done)):
                self.assertEqual(assembly.redo(), done[at])
                self.assertEqual(facts(assembly), dict(seen[at + 1], undone=done[at + 1:]))
            self.refused(NothingLeft, assembly, "redo")

    def test_a_new_deed_ends_what_could_be_redone(self):
        for back in range(1, 15):
            assembly = full()
            for each in range(back):
                assembly.undo()
            before = deeds(assembly)
            assembly.come("new", "yyn")
            self.assertEqual((deeds(assembly), undone(assembly)), (before + [("come", "new", "yyn")], []))
            self.refused(NothingLeft, assembly, "redo")
            assembly.undo()
            self.assertEqual(undone(assembly), [("come", "new", "yyn")])

    def test_a_refused_deed_ends_nothing(self):
        assembly = full()
        waiting = undone(assembly)
        self.assertEqual(len(waiting), 1)
        for deed in (("come", "ada", "yyn"), ("leave", "bo"), ("turn", "ada", 0, "y"), ("swear", "ada", 0, "n", 1, "y"),
                     ("recant", "ada", 1), ("enter", "maybe"), ("strike", 0)):
            self.assertEqual(outcome(do, assembly, deed)[0], "refused")
            self.assertEqual(undone(assembly), waiting)
        self.assertEqual(assembly.redo(), ("come", "bo", "nyn"))

    def test_an_undone_leaving_brings_back_place_oaths_and_entries(self):
        assembly = with_folk(2, ada="yn", bo="nn", cy="nn")
        assembly.swear("bo", 0, "y", 1, "n")
        assembly.swear("ada", 0, "y", 1, "n")
        assembly.swear("ada", 1, "n", 1, "n")
        assembly.enter("yn")
        before = facts(assembly)
        self.assertEqual(assembly.leave("ada"), [0])
        assembly.undo()
        self.assertEqual(facts(assembly), dict(before, undone=[("leave", "ada")]))
        self.assertEqual((folk(assembly), swearers(assembly, 0)), (["ada", "bo", "cy"], ["bo", "ada"]))

    def test_an_undone_swearing_gives_its_number_back(self):
        assembly = with_folk(1, ada="y")
        self.assertEqual(assembly.swear("ada", 0, "n", 0, "y"), 0)
        assembly.undo()
        self.assertEqual(assembly.swear("ada", 0, "y", 0, "y"), 0)
        assembly.undo()
        assembly.redo()
        self.assertEqual(assembly.swear("ada", 0, "n", 0, "y"), 1)

    def test_an_undone_entering_gives_its_number_back(self):
        assembly = with_folk(1, ada="y", bo="n")
        self.assertEqual(assembly.enter("y"), 0)
        assembly.undo()
        self.assertEqual(assembly.enter("n"), 0)
        self.assertEqual(roll(assembly), [(0, "n", "standing", None)])


class TestAgainstTheDocument(AssemblyCase):
    def test_drawn_deeds_undoings_and_redoings(self):
        words = set()
        for questions, seed in itertools.product((1, 2, 3, 4), range(12)):
            assembly, moot = Assembly(questions), Moot(questions)
            for deed in drawn_deeds(questions, 70, seed=600 + 20 * questions + seed):
                told = outcome(do, assembly, deed)
                self.assertEqual(told, outcome(moot.do, *deed), deed)
                self.assertEqual(facts(assembly), moot.facts(), deed)
                words.add((deed[0], told[1] if told[0] == "refused" else None))
        every = {"come": (None, BadName, Taken, BadRow, Broken), "leave": (None, NoPerson),
                 "turn": (None, NoPerson, NoQuestion, BadSign, Same, Broken),
                 "swear": (None, NoPerson, NoQuestion, BadSign, Broken, Sworn),
                 "recant": (None, NoPerson, NoOath, NotSworn), "enter": (None, BadRow, NotBorne, Entered),
                 "strike": (None, NoEntry, NotStanding), "undo": (None, NothingLeft), "redo": (None, NothingLeft)}
        self.assertEqual(words, {(word, error) for word, errors in every.items() for error in errors})

    def test_two_assemblies_done_in_turn(self):
        pairs = [(Assembly(questions), Moot(questions)) for questions in (2, 3, 3)]
        drawn = [drawn_deeds(moot.questions, 50, seed=720 + at) for at, (assembly, moot) in enumerate(pairs)]
        for turns in zip(*drawn):
            for (assembly, moot), deed in zip(pairs, turns):
                self.assertEqual(outcome(do, assembly, deed), outcome(moot.do, *deed))
            for assembly, moot in pairs:
                self.assertEqual(facts(assembly), moot.facts())


class TestTwins(AssemblyCase):
    def test_a_twin_stands_as_the_first_one(self):
        assembly = full()
        twin = assembly.twin()
        self.assertIs(type(twin), Assembly)
        self.assertEqual(history(twin), history(assembly))

    def test_twins_go_their_own_ways(self):
        for seed in range(6):
            assembly, moot = Assembly(3), Moot(3)
            for deed in drawn_deeds(3, 40, seed=740 + seed):
                self.assertEqual(outcome(do, assembly, deed), outcome(moot.do, *deed))
            twin, double = assembly.twin(), Moot(3)
            double.deeds, double.undone = list(moot.deeds), list(moot.undone)
            ways = zip(drawn_deeds(3, 30, seed=750 + seed), drawn_deeds(3, 30, seed=760 + seed))
            for one, two in ways:
                self.assertEqual(outcome(do, assembly, one), outcome(moot.do, *one))
                self.assertEqual(outcome(do, twin, two), outcome(double.do, *two))
                self.assertEqual((facts(assembly), facts(twin)), (moot.facts(), double.facts()))

    def test_each_deed_of_a_twin_leaves_the_first_one(self):
        for deed in (("come", "ed", "yyn"), ("leave", "ada"), ("turn", "cy", 1, "y"), ("swear", "di", 0, "n", 1, "y"),
                     ("recant", "ada", 0), ("enter", "yyn"), ("strike", 2), ("undo",), ("redo",)):
            assembly = full()
            before = history(assembly)
            twin = assembly.twin()
            do(twin, deed)
            self.assertNotEqual(facts(twin), before[0])
            self.assertEqual(history(assembly), before)
            twin = assembly.twin()
            before = history(twin)
            do(assembly, deed)
            self.assertEqual(history(twin), before)


class TestSoon(AssemblyCase):
    def test_a_thousand_deeds_of_a_hundred_folk(self):
        def all_deeds():
            assembly = Assembly(12)
            rows = wide(12) + chain(12)
            for number in range(100):
                assembly.come(f"p{number}", rows[number % len(rows)])
            for row in all_rows(12)[::13][:300]:
                assembly.enter(row)
            for number in range(300):
                name, question = f"p{number % 100}", number % 12
                assembly.turn(name, question, OTHER[row_of(assembly, name)[question]])
            for number in range(100):
                assembly.swear(f"p{number}", 0, "y", 0, "y")
            for number in range(100):
                assembly.swear(f"p{number}", number % 11 + 1, "n", number % 11 + 1, "n")
            for number in range(100):
                assembly.leave(f"p{number}")
            return assembly
        assembly = self.assert_soon(all_deeds)
        self.assertEqual(len(deeds(assembly)), 1000)
        self.assertEqual((folk(assembly), oaths_of(assembly)), ([], []))
        self.assertEqual({entry[2] for entry in roll(assembly)}, {"fallen"})

        def back_and_on():
            for each in range(1000):
                assembly.undo()
            for each in range(1000):
                assembly.redo()
            return assembly.twin()
        before = facts(assembly)
        self.assertEqual(facts(self.assert_soon(back_and_on)), before)

    def test_turnings_by_which_nothing_falls(self):
        def turnings():
            assembly = Assembly(12)
            for at, row in enumerate(wide(12)):
                assembly.come(f"p{at}", "n" + row[1:])
            assembly.come("odd", "y" * 12)
            for row in rulings(table_of(assembly))[:480]:
                if row[0] == "n":
                    assembly.enter(row)
            for each in range(220):
                assembly.turn("odd", 0, "n")
                assembly.turn("odd", 0, "y")
            return assembly
        assembly = self.assert_soon(turnings)
        self.assertEqual({entry[2] for entry in roll(assembly)}, {"standing"})


if __name__ == "__main__":
    unittest.main()
