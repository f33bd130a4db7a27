"""A desk and its answers: points [2] to [4], [28] and wapentake/desk.py."""

import itertools
import random
import unittest

from moot import NAMES, Moot, do, drawn_deeds, history, lacks_of, outcome, refuse
from reference import FORTY, SIXTY, TableCase, all_rows, bundles_of, facts, holds, wide
from texts import is_desk_text, spoilt
from wapentake import desk as desk_module
from wapentake.asks import deeds, folk, undone
from wapentake.assembly import Assembly
from wapentake.desk import Desk
from wapentake.errors import BadCount, NotBorne, WapentakeError

ASKS = ("ruling", "steps", "voice", "standing", "follows")
DEEDS = ("come", "leave", "turn", "swear", "recant", "enter", "strike")
# One row of each form.
ROWS = ("come ada yn", "leave ada", "turn ada 0 y", "swear ada 0 y 1 n", "recant ada 0", "enter yn", "strike 0", "undo",
        "redo", "ruling yn", "steps yn nn", "voice", "standing", "follows 0 y 1 n")


class Clerk:
    """What a desk answers by the words of [28], held against all rows."""

    def __init__(self, questions):
        self.moot = Moot(questions)

    def say(self, row):
        if not is_desk_text(row):
            return "no: bad text"
        word, *rest = row.split(" ")
        handed = [int(part) if part.isdigit() else part for part in rest]
        try:
            return getattr(self, word)(*handed) if word in ASKS else self.do(word, *handed)
        except WapentakeError as error:
            return "no: " + error.word

    def do(self, word, *handed):
        told = self.moot.do(word, *handed)
        if word in ("undo", "redo"):
            return " ".join(map(str, ({"undo": "undone", "redo": "redone"}[word],) + told))
        if word in ("swear", "enter"):
            return ("oath " if word == "swear" else "entry ") + str(told)
        return " ".join(map(str, ["fell"] + told)) if told else "done"

    def hall(self):
        return self.moot.hall(self.moot.deeds)[0]

    def ruling(self, row):
        self.hall().check_row(row)
        missing = lacks_of(self.hall().rows(), row)
        return "no " + " ".join(map(str, min(missing))) if missing else "yes"

    def steps(self, one, two):
        rows = self.hall().rows()
        for row in (one, two):
            self.hall().check_row(row)
            refuse(lacks_of(rows, row), NotBorne)
        lowest = [bundle[0] for bundle in bundles_of(rows, self.moot.questions)]
        return str(len([at for at in lowest if one[at] != two[at]]))

    def voice(self):
        told, rows = "", self.hall().rows()
        for at in range(self.moot.questions):
            yes = [row[at] for row in rows].count("y")
            told += "y" if 2 * yes > len(rows) else "n" if 2 * yes < len(rows) else "-"
        return told

    def standing(self):
        return " ".join(str(entry[0]) for entry in self.hall().roll if entry[2] == "standing") or "-"

    def follows(self, q, a, r, b):
        self.hall().check_answers([q, r], [a, b])
        kept = [row for row in all_rows(self.moot.questions) if all(holds(row, oath[1]) for oath in self.hall().oaths)]
        return "no" if [row for row in kept if row[q] == a and row[r] != b] else "yes"


def told(questions, *rows):
    """A desk that was told these rows."""
    desk = Desk(questions)
    for row in rows:
        desk.say(row)
    return desk


def drawn_rows(questions, many, seed):
    """Always the same rows of words; most have a form, some of them are refused, and some have none."""
    draw = random.Random(seed)
    rows = [" ".join(map(str, deed)) for deed in drawn_deeds(questions, many, seed)]
    for at in range(0, many, 2):
        row, other = draw.choice(all_rows(questions)), draw.choice(all_rows(questions))
        q, r = draw.randrange(questions + 1), draw.randrange(questions)
        a, b = draw.choice("nyyx"), draw.choice("nny")
        asked = (f"ruling {row}", f"ruling {row}y", f"steps {row} {other}", "voice", "standing",
                 f"follows {q} {a} {r} {b}", "undo", "redo", "undo ", "", draw.choice(spoilt(draw.choice(ROWS))))
        rows.insert(draw.randrange(len(rows)), draw.choice(asked))
    return rows


class DeskCase(TableCase):
    def assert_unmoved(self, desk, row, answer):
        """That a row is so answered and leaves all as it was, what can be undone and redone too."""
        before = history(desk.assembly)
        self.assertEqual(desk.say(row), answer, row)
        self.assertEqual(history(desk.assembly), before, row)


class TestInterface(DeskCase):
    def test_the_arguments_are_called_as_told(self):
        self.assert_arguments(desk_module, {"Desk": "questions"})
        self.assert_arguments(Desk(1), {"say": "row"})

    def test_counts(self):
        for questions in range(1, 13):
            desk = Desk(questions)
            self.assertIs(type(desk.assembly), Assembly)
            self.assertEqual(facts(desk.assembly), facts(Assembly(questions)))
        for questions in (0, 13, -1, FORTY, -SIXTY):
            with self.assertRaises(BadCount) as caught:
                Desk(questions)
            self.assertIs(type(caught.exception), BadCount)

    def test_the_assembly_is_the_very_one(self):
        desk = Desk(2)
        assembly = desk.assembly
        desk.say("come ada yn")
        self.assertIs(desk.assembly, assembly)
        self.assertEqual(folk(assembly), ["ada"])


class TestDeeds(DeskCase):
    def test_each_deed(self):
        desk = Desk(3)
        for row, answer in (
                ("come ada ynn", "done"), ("come bo nyn", "done"), ("come cy nny", "done"), ("enter nnn", "entry 0"),
                ("enter nny", "entry 1"), ("enter ynn", "entry 2"), ("swear ada 0 y 1 n", "oath 0"),
                ("swear bo 1 y 0 n", "oath 0"), ("swear bo 1 y 2 n", "oath 1"), ("recant ada 0", "done"),
                ("strike 2", "done"), ("turn ada 0 n", "done"), ("turn ada 0 y", "done"), ("leave cy", "fell 0 1"),
                ("come cy nny", "done"), ("enter nny", "entry 3"), ("turn cy 2 n", "fell 3"), ("leave bo", "done"),
                ("leave ada", "done"), ("leave cy", "done")):
            self.assertEqual(desk.say(row), answer, row)
        self.assertEqual(len(deeds(desk.assembly)), 20)

    def test_undoing_and_redoing(self):
        rows = ["come ada ynn", "come bo nyn", "swear ada 0 y 1 n", "enter ynn", "turn bo 2 y", "strike 0",
                "recant ada 0", "leave ada"]
        desk = told(3, *rows)
        for each in range(2):
            for row in reversed(rows):
                self.assertEqual(desk.say("undo"), f"undone {row}")
            self.assert_unmoved(desk, "undo", "no: nothing left")
            for row in rows:
                self.assertEqual(desk.say("redo"), f"redone {row}")
            self.assert_unmoved(desk, "redo", "no: nothing left")
        desk.say("undo")
        self.assertEqual(desk.say("come cy nnn"), "done")
        self.assert_unmoved(desk, "redo", "no: nothing left")

    def test_what_fell_is_told_rising(self):
        desk = told(2, "come ada yn", "come bo ny", "come cy nn")
        for number, row in enumerate(("yn", "nn", "ny")):
            self.assertEqual(desk.say(f"enter {row}"), f"entry {number}")
        self.assertEqual(desk.say("leave cy"), "fell 1")
        self.assertEqual(desk.say("turn ada 0 n"), "fell 0")
        self.assertEqual(desk.say("undo"), "undone turn ada 0 n")
        self.assertEqual(desk.say("turn ada 1 y"), "fell 0")
        self.assertEqual(desk.say("leave bo"), "fell 2")

    def test_numbers_of_two_figures(self):
        desk = told(4, *[f"come p{at} {row}" for at, row in enumerate(all_rows(4))])
        answers = [desk.say(f"enter {row}") for row in all_rows(4)]
        self.assertEqual(answers, [f"entry {number}" for number in range(16)])
        self.assertEqual(desk.say("standing"), " ".join(map(str, range(16))))
        for at in range(1, 16):
            desk.say(f"leave p{at}")
        self.assertEqual(desk.say("standing"), "0")
        self.assertEqual(desk.say("leave p0"), "fell 0")


class TestAsked(DeskCase):
    def test_each_ask(self):
        desk = told(3, "come ada ynn", "come bo nyn", "come cy nny", "come di nnn", "swear ada 0 y 1 n", "enter nnn",
                    "enter ynn", "enter nyn", "strike 1", "undo", "undo")
        for row, answer in (
                ("ruling nnn", "yes"), ("ruling nny", "yes"), ("ruling yyn", "no 0 1"), ("ruling nyy", "no 1 2"),
                ("ruling yyy", "no 0 1"), ("ruling yny", "no 0 2"), ("steps nnn nnn", "0"), ("steps nnn ynn", "1"),
                ("steps nny ynn", "2"), ("voice", "nnn"), ("standing", "0 1"), ("follows 0 y 1 n", "yes"),
                ("follows 1 y 0 n", "yes"), ("follows 1 n 0 y", "no"), ("follows 2 y 2 y", "yes"),
                ("follows 2 y 2 n", "no"), ("follows 0 y 2 y", "no")):
            self.assert_unmoved(desk, row, answer)
        self.assertEqual(undone(desk.assembly), [("enter", "nyn"), ("strike", 1)])

    def test_with_nobody_there(self):
        desk = Desk(2)
        for row, answer in (("ruling yn", "no 0 0"), ("steps yn yn", "no: not borne"), ("voice", "--"),
                            ("standing", "-"), ("follows 0 y 1 y", "no"), ("follows 0 y 0 y", "yes"),
                            ("undo", "no: nothing left"), ("redo", "no: nothing left")):
            self.assert_unmoved(desk, row, answer)

    def test_voices(self):
        desk = told(3, "come ada yyn", "come bo ynn")
        self.assertEqual(desk.say("voice"), "y-n")
        desk.say("come cy nny")
        self.assertEqual(desk.say("voice"), "ynn")

    def test_no_entry_stands(self):
        desk = told(1, "come ada y", "enter y")
        self.assertEqual(desk.say("standing"), "0")
        desk.say("strike 0")
        self.assertEqual(desk.say("standing"), "-")

    def test_refusals_of_asks(self):
        desk = told(2, "come ada yn", "come bo nn", "undo")
        for row, answer in (("ruling y", "no: bad row"), ("ruling maybe", "no: bad row"), ("steps y yn", "no: bad row"),
                            ("steps yn y", "no: bad row"), ("steps yn yy", "no: not borne"),
                            ("steps yy y", "no: not borne"), ("steps y yy", "no: bad row"),
                            ("follows 2 y 0 y", "no: no question"), ("follows 0 y 2 y", "no: no question"),
                            ("follows 0 x 2 y", "no: no question"), ("follows 0 x 0 y", "no: bad sign"),
                            ("follows 0 y 0 yes", "no: bad sign"), ("follows 999999999 y 0 y", "no: no question")):
            self.assert_unmoved(desk, row, answer)


class TestRefusals(DeskCase):
    def test_every_refusals_word(self):
        desk = told(2, "come ada yn", "come bo nn", "swear ada 0 y 1 n", "enter yn", "enter nn", "strike 1", "leave bo",
                    "undo")
        for row, answer in (
                ("come ada yn", "taken"), ("come cy y", "bad row"), ("come cy yy", "broken"), ("leave cy", "no person"),
                ("turn cy 0 y", "no person"), ("turn ada 2 y", "no question"), ("turn ada 0 x", "bad sign"),
                ("turn ada 0 y", "the same"), ("turn ada 1 y", "broken"), ("swear cy 0 y 0 y", "no person"),
                ("swear ada 2 y 0 y", "no question"), ("swear ada 0 y 0 x", "bad sign"), ("swear bo 0 y 1 y", "broken"),
                ("swear ada 0 y 1 n", "sworn"), ("swear ada 1 y 0 n", "sworn"), ("recant cy 0", "no person"),
                ("recant ada 1", "no oath"), ("recant bo 0", "not sworn"), ("enter ynn", "bad row"),
                ("enter ny", "not borne"), ("enter yn", "entered"), ("strike 2", "no entry"),
                ("strike 1", "not standing"), ("wait", "bad text"), ("come Ada yn", "bad text"),
                ("turn ada 00 y", "bad text")):
            self.assert_unmoved(desk, row, f"no: {answer}")
        self.assertEqual(undone(desk.assembly), [("leave", "bo")])
        self.assert_unmoved(Desk(1), "undo", "no: nothing left")
        self.assert_unmoved(desk, "leave " + "a" * 13, "no: bad text")

    def test_words_of_another_form_are_ahead_of_all_else(self):
        desk = told(2, "come ada yn")
        for row in ("come ada Y", "come ada y-", "leave Nobody", "turn nobody 01 y", "turn nobody 0 Y",
                    "swear x 0 y 0 -", "recant nobody 1234567890", "enter y-", "strike 05", "ruling y-",
                    "ruling 0", "steps yy Y", "steps maybe -", "follows 9 x 01 y", "follows 0 1 0 y",
                    "follows y 0 y 0", "follows 0 y 0"):
            self.assert_unmoved(desk, row, "no: bad text")

    def test_a_blank_or_a_line_end_more(self):
        desk = told(2, "come ada yn", "come bo nn", "swear ada 0 y 1 n", "enter yn", "undo")
        for row in ROWS:
            words = row.split(" ")
            for wrong in (" " + row, row + " ", row + "\n", "\n" + row, "  ".join(words), "\n".join(words), row + " y",
                          row + " 0", row.upper()):
                if wrong != row:
                    self.assert_unmoved(desk, wrong, "no: bad text")

    def test_rows_of_no_form(self):
        desk = told(2, "come ada yn", "come bo nn", "undo")
        for row in ("", " ", "\n", "undo\nredo", "come", "undo 1", "redo ada", "voice 0", "standing 1", "ruling",
                    "steps", "steps yn", "follows", "assembly 2", "say", "twin", "folk", "come ada yn\ncome cy yn",
                    "-", "yn", "rows", "lacks yn", "Undo", "UNDO", "undone", "a" * 40000, " " * 40000):
            self.assert_unmoved(desk, row, "no: bad text")

    def test_spoilt_at_each_place(self):
        desk = told(2, "come ada yn", "come bo nn", "swear ada 0 y 1 n", "enter yn", "undo")
        before = history(desk.assembly)
        for row in ROWS:
            for wrong in spoilt(row):
                if not is_desk_text(wrong):
                    self.assertEqual(desk.say(wrong), "no: bad text", wrong)
        self.assertEqual(history(desk.assembly), before)


class TestAgainstTheDocument(DeskCase):
    def test_drawn_rows(self):
        seen = set()
        for questions, seed in itertools.product((1, 2, 3, 4), range(10)):
            desk, clerk = Desk(questions), Clerk(questions)
            for row in drawn_rows(questions, 60, seed=1100 + 20 * questions + seed):
                answer = desk.say(row)
                self.assertEqual(answer, clerk.say(row), row)
                self.assertEqual(facts(desk.assembly), clerk.moot.facts(), row)
                seen.add(answer if answer.startswith("no: ") else answer.split(" ")[0])
        self.assertLessEqual({"done", "oath", "entry", "fell", "undone", "redone", "yes", "no", "-", "no: bad text",
                              "no: nothing left", "no: broken", "no: not borne", "no: bad row"}, seen)

    def test_what_is_not_done_leaves_what_can_be_undone_and_redone(self):
        for seed in range(4):
            desk = Desk(2)
            for row in drawn_rows(2, 50, seed=1200 + seed):
                before = history(desk.assembly)
                answer = desk.say(row)
                if answer.startswith("no: ") or row.split(" ")[0] not in DEEDS + ("undo", "redo"):
                    self.assertEqual(history(desk.assembly), before, row)
                else:
                    self.assertNotEqual(history(desk.assembly), before, row)

    def test_desks_told_by_turns(self):
        desks = [(Desk(questions), Clerk(questions)) for questions in (2, 3, 3)]
        drawn = [drawn_rows(clerk.moot.questions, 50, seed=1220 + at) for at, (desk, clerk) in enumerate(desks)]
        for rows in zip(*drawn):
            for (desk, clerk), row in zip(desks, rows):
                self.assertEqual(desk.say(row), clerk.say(row))
            for desk, clerk in desks:
                self.assertEqual(facts(desk.assembly), clerk.moot.facts())

    def test_a_desk_whose_assembly_is_also_handled_by_hand(self):
        for seed in range(5):
            desk, clerk = Desk(3), Clerk(3)
            drawn = zip(drawn_rows(3, 40, seed=1230 + seed), drawn_deeds(3, 40, seed=1240 + seed))
            for row, deed in drawn:
                self.assertEqual(desk.say(row), clerk.say(row))
                self.assertEqual(outcome(do, desk.assembly, deed), outcome(clerk.moot.do, *deed))
                self.assertEqual(facts(desk.assembly), clerk.moot.facts())

    def test_a_written_round_by_hand(self):
        desk = Desk(2)
        desk.assembly.come("ada", "yn")
        self.assertEqual(desk.say("ruling yn"), "yes")
        self.assertEqual(desk.say("enter yn"), "entry 0")
        self.assertEqual(desk.assembly.leave("ada"), [0])
        self.assertEqual(desk.say("standing"), "-")
        self.assertEqual(desk.say("undo"), "undone leave ada")
        self.assertEqual(desk.assembly.redo(), ("leave", "ada"))
        twin = desk.assembly.twin()
        twin.undo()
        self.assertEqual(desk.say("undo"), "undone leave ada")


class TestSoon(DeskCase):
    def test_twelve_questions_and_a_thousand_rows(self):
        rows = [f"come p{at} {row}" for at, row in enumerate((wide(12) * 10)[:100])]
        rows += [f"enter {row}" for row in all_rows(12)[::11][:350]]
        rows += [f"swear p{at} 0 y 0 y" for at in range(100)] + ["undo"] * 50 + ["redo"] * 50
        rows += ["ruling " + "y" * 12, "steps nnnnnnnnnnnn yyyyyyyyyyyy", "voice", "standing", "follows 0 y 11 n"] * 40
        rows += [f"leave p{at}" for at in range(100)]
        desk = Desk(12)

        def all_rows_told():
            return [desk.say(row) for row in rows]
        answers = self.assert_soon(all_rows_told)
        self.assertEqual([answer for answer in answers if answer.startswith("no: ")], [])
        self.assertTrue([answer for answer in answers if answer.startswith("fell ")])
        self.assertIn("12", answers)
        self.assertEqual(desk.say("standing"), "-")

    def test_names_are_free_of_the_words(self):
        desk = Desk(1)
        for name in ("come", "undo", "voice", "y", "n") + NAMES:
            self.assertEqual(desk.say(f"come {name} y"), "done")
        self.assertEqual(desk.say("turn undo 0 n"), "done")
        self.assertEqual(desk.say("undo"), "undone turn undo 0 n")
        self.assertEqual(desk.say("leave come"), "done")


if __name__ == "__main__":
    unittest.main()
