"""Deeds and assemblies as texts: points [2] to [4], [26], [27] and wapentake/notes.py."""

import re
import unittest

from moot import Moot, do, drawn_deeds, history, outcome
from reference import FORTY, TableCase, all_rows, facts, wide
from texts import NUMBER, is_deed_text, spoilt
from wapentake import notes
from wapentake.asks import deeds, folk, undone
from wapentake.assembly import Assembly
from wapentake.errors import (BadCount, BadName, BadRow, BadSign, BadText, Broken, Entered, NoEntry, NoOath, NoPerson,
                              NoQuestion, NotBorne, NotStanding, NotSworn, Same, Sworn, Taken)
from wapentake.notes import deed_text, read, read_deed, written

TEXTS = {
    ("come", "ada", "yyn"): "come ada yyn",
    ("leave", "ada"): "leave ada",
    ("turn", "ada", 0, "y"): "turn ada 0 y",
    ("turn", "b7", 11, "n"): "turn b7 11 n",
    ("swear", "ada", 0, "y", 11, "n"): "swear ada 0 y 11 n",
    ("recant", "ada", 10): "recant ada 10",
    ("enter", "ynynynynynyn"): "enter ynynynynynyn",
    ("strike", 999): "strike 999",
}


class NotesCase(TableCase):
    def refused(self, error, deed, text):
        with self.assertRaises(error) as caught:
            deed(text)
        self.assertIs(type(caught.exception), error, text)

    def assert_same(self, one, two):
        """That what is read stands as the first one, with the same to undo and nothing to redo."""
        told = facts(one)
        told["undone"] = []
        self.assertEqual(facts(two), told)


class TestInterface(NotesCase):
    def test_the_arguments_are_called_as_told(self):
        self.assert_arguments(notes, {
            "deed_text": "deed", "read_deed": "text", "written": "assembly", "read": "text"})


class TestDeeds(NotesCase):
    def test_each_deed_and_back(self):
        for deed, text in TEXTS.items():
            self.assertEqual(deed_text(deed), text)
            told = read_deed(text)
            self.assertEqual(told, deed)
            self.assertEqual([type(part) for part in told], [type(part) for part in deed])
            self.assertIs(type(told), tuple)

    def test_words_that_mean_nothing_are_read(self):
        for text, deed in (("come a maybe", ("come", "a", "maybe")), ("enter y", ("enter", "y")),
                           ("turn z9 999999999 x", ("turn", "z9", 999999999, "x")),
                           ("swear q 12 yes 100 no", ("swear", "q", 12, "yes", 100, "no")),
                           ("recant come 0", ("recant", "come", 0)), ("leave leave", ("leave", "leave")),
                           ("strike 0", ("strike", 0)), ("enter abcdefghijkl", ("enter", "abcdefghijkl"))):
            self.assertEqual(read_deed(text), deed)
            self.assertEqual(deed_text(deed), text)

    def test_spoilt_at_each_place(self):
        seen = set()
        for text in TEXTS.values():
            for wrong in spoilt(text):
                seen.add(is_deed_text(wrong))
                if is_deed_text(wrong):
                    self.assertEqual(deed_text(read_deed(wrong)), wrong)
                else:
                    self.refused(BadText, read_deed, wrong)
        self.assertEqual(seen, {True, False})

    def test_numbers(self):
        for number in ("00", "01", "007", "1234567890", "0000000000", "-1", "+1", "1.0", "1_0", "0x1", "", "y", "1y",
                       "y1", "1" * 40, "9" * 400, "-0", "1\n", "\n1"):
            self.refused(BadText, read_deed, f"strike {number}")
            self.refused(BadText, read_deed, f"recant ada {number}")
            self.refused(BadText, read_deed, f"turn ada {number} y")
            self.refused(BadText, read_deed, f"swear ada {number} y 0 y")
            self.refused(BadText, read_deed, f"swear ada 0 y {number} y")
        for number in (0, 1, 9, 10, 100, 123456789, 999999999):
            self.assertEqual(read_deed(f"strike {number}"), ("strike", number))

    def test_other_words(self):
        for word in ("", "7", "7a", "0", "A", "aB", "abcdefghijklm", "a-", "y-n", "-", "a.", "a" * 400, "a\n", "\na"):
            for form in ("come WORD yyn", "come ada WORD", "leave WORD", "turn WORD 0 y", "turn ada 0 WORD",
                         "swear WORD 0 y 0 y", "swear ada 0 WORD 0 y", "swear ada 0 y 0 WORD", "recant WORD 0",
                         "enter WORD"):
                self.refused(BadText, read_deed, form.replace("WORD", word))

    def test_a_word_more_or_less_or_another_first_word(self):
        for text in TEXTS.values():
            words = text.split(" ")
            self.refused(BadText, read_deed, " ".join(words[:-1]))
            self.refused(BadText, read_deed, " ".join(words + ["ada"]))
            self.refused(BadText, read_deed, " ".join(words + ["0"]))
            self.refused(BadText, read_deed, text + " ")
            self.refused(BadText, read_deed, " " + text)
            for first in ("", "Come", "COME", "comes", "undo", "redo", "assembly", "ruling", "0", "wait"):
                self.refused(BadText, read_deed, " ".join([first] + words[1:]))
        for text in ("", " ", "\n", "come", "leave", "strike", "undo", "redo", "voice", "come ada", "assembly 3"):
            self.refused(BadText, read_deed, text)

    def test_long_texts_are_answered_soon(self):
        for text in ("a" * 40000, " " * 40000, "come " * 8000, "strike " + "1" * 39993, "leave " + "a" * 39994):
            self.assert_soon(self.refused, BadText, read_deed, text)

    def test_a_deed_that_could_not_be_read_is_written_all_the_same(self):
        self.assertEqual(deed_text(("strike", FORTY)), f"strike {FORTY}")


class TestWriting(NotesCase):
    def test_written_examples(self):
        assembly = Assembly(3)
        self.assertEqual(written(assembly), "assembly 3")
        assembly.come("ada", "yyn")
        assembly.swear("ada", 0, "y", 2, "n")
        assembly.enter("yyn")
        self.assertEqual(written(assembly), "assembly 3\ncome ada yyn\nswear ada 0 y 2 n\nenter yyn")
        assembly.undo()
        self.assertEqual(written(assembly), "assembly 3\ncome ada yyn\nswear ada 0 y 2 n")
        assembly.redo()
        assembly.strike(0)
        assembly.recant("ada", 0)
        assembly.turn("ada", 1, "n")
        assembly.leave("ada")
        self.assertEqual(written(assembly).split("\n")[4:], ["strike 0", "recant ada 0", "turn ada 1 n", "leave ada"])
        self.assertEqual(written(Assembly(12)), "assembly 12")

    def test_read_examples(self):
        assembly = read("assembly 2\ncome ada yn\ncome bo nn\nenter yn\nleave ada")
        self.assertIs(type(assembly), Assembly)
        self.assertEqual((assembly.questions, folk(assembly)), (2, ["bo"]))
        self.assertEqual(assembly.undo(), ("leave", "ada"))
        self.assertEqual(facts(read("assembly 12")), facts(Assembly(12)))
        self.assertEqual(facts(read("assembly 1")), facts(Assembly(1)))

    def test_written_and_read_behind_deeds_undoings_and_redoings(self):
        for questions in (1, 2, 3, 4):
            for seed in range(5):
                assembly = Assembly(questions)
                for deed in drawn_deeds(questions, 40, seed=1000 + 10 * questions + seed):
                    outcome(do, assembly, deed)
                    before = history(assembly)
                    text = written(assembly)
                    self.assertEqual(text.split("\n"), [f"assembly {questions}"] + [
                        " ".join(map(str, each)) for each in deeds(assembly)])
                    self.assert_same(assembly, read(text))
                    self.assertEqual(written(read(text)), text)
                    self.assertEqual(history(assembly), before)

    def test_what_is_read_has_nothing_to_redo_and_goes_on_as_the_first_one(self):
        for seed in range(6):
            first = Assembly(3)
            for deed in drawn_deeds(3, 40, seed=1060 + seed):
                outcome(do, first, deed)
            first.undo()
            self.assertEqual(undone(read(written(first))), [])
            while undone(first):
                first.redo()
            second, moot = read(written(first)), Moot(3)
            moot.deeds = deeds(first)
            for deed in drawn_deeds(3, 40, seed=1070 + seed):
                told = outcome(do, second, deed)
                self.assertEqual(told, outcome(do, first, deed))
                self.assertEqual(told, outcome(moot.do, *deed))
                self.assertEqual((facts(first), facts(second)), (moot.facts(), moot.facts()))

    def test_what_is_read_has_nothing_to_do_with_the_first_one(self):
        first = read("assembly 2\ncome ada yn")
        second = read(written(first))
        second.leave("ada")
        self.assertEqual((folk(first), folk(second)), (["ada"], []))

    def test_many_hundred_lines_are_read_soon(self):
        rows = wide(12)
        text = "\n".join(["assembly 12"] + [f"come p{at} {rows[at % 10]}" for at in range(100)]
                         + [f"enter {row}" for row in all_rows(12)[::9][:400]]
                         + [f"swear p{at} 0 y 0 y" for at in range(100)]
                         + [f"turn p{at} 3 {'y' if rows[at % 10][3] == 'n' else 'n'}" for at in range(100)]
                         + [f"leave p{at}" for at in range(100)] + [f"come p{at} {rows[at % 10]}" for at in range(100)]
                         + [f"leave p{at}" for at in range(99)])
        self.assertGreater(len(text.split("\n")), 950)
        self.assertLess(len(text), 40000)
        assembly = self.assert_soon(read, text)
        self.assertEqual((folk(assembly), len(deeds(assembly))), (["p99"], 999))
        self.assertEqual(self.assert_soon(written, assembly), text)


class TestReadingRefused(NotesCase):
    def test_the_first_line(self):
        for line in ("", " ", "assembly", "assembly ", "assembly  3", " assembly 3", "assembly 3 ", "assembly 03",
                     "assembly 00", "assembly -1", "assembly y", "assembly 3 3", "Assembly 3", "assembl 3", "3",
                     "assembly 1234567890", "assembly 3.", "assembly three", "come ada y", "\n", "assembly 3\n",
                     "come 3", "strike 0"):
            self.refused(BadText, read, line)
            self.refused(BadText, read, line + "\ncome ada yyn")

    def test_spoilt_at_each_place(self):
        text = "assembly 1\ncome ada y\nturn ada 0 n"
        for wrong in spoilt(text):
            head, *lines = wrong.split("\n")
            good = re.fullmatch(f"assembly {NUMBER}", head) and all(map(is_deed_text, lines))
            self.assertEqual(outcome(read, wrong) == ("refused", BadText), not good, wrong)

    def test_another_line_that_is_no_deeds_text(self):
        for line in ("", " ", "come ada", "undo", "redo", "voice", "assembly 3", "come ada y-n", "strike 01"):
            self.refused(BadText, read, f"assembly 3\n{line}")
            self.refused(BadText, read, f"assembly 3\ncome ada yyn\n{line}")
            self.refused(BadText, read, f"assembly 3\n{line}\ncome ada yyn")

    def test_counts(self):
        for count in (0, 13, 14, 100, 999999999):
            self.refused(BadCount, read, f"assembly {count}")
            self.refused(BadCount, read, f"assembly {count}\ncome ada yyn")

    def test_what_a_deed_refuses(self):
        head = "assembly 2\ncome ada yn\ncome bo nn\nswear ada 0 y 1 n\nenter yn\n"
        for line, error in (("come ada yn", Taken), ("come cy y", BadRow), ("come cy yy", Broken),
                            ("leave cy", NoPerson), ("turn cy 0 y", NoPerson), ("turn ada 2 y", NoQuestion),
                            ("turn ada 0 x", BadSign), ("turn ada 0 y", Same), ("turn ada 1 y", Broken),
                            ("swear cy 0 y 0 y", NoPerson), ("swear ada 0 y 2 y", NoQuestion),
                            ("swear ada 0 y 0 x", BadSign),
                            ("swear ada 0 y 1 y", Broken), ("swear ada 1 y 0 n", Sworn), ("recant cy 0", NoPerson),
                            ("recant ada 1", NoOath), ("recant bo 0", NotSworn), ("enter maybe", BadRow),
                            ("enter ny", NotBorne), ("enter yn", Entered), ("strike 1", NoEntry),
                            ("strike 0\nstrike 0", NotStanding)):
            self.refused(error, read, head + line)
            self.refused(error, read, f"{head}{line}\nleave nobody")

    def test_a_bad_name_is_a_bad_text(self):
        self.refused(BadText, read, "assembly 1\ncome Ada y")
        self.assertEqual(outcome(Assembly(1).come, "Ada", "y"), ("refused", BadName))

    def test_bad_texts_are_ahead_of_bad_counts_ahead_of_what_a_deed_refuses(self):
        self.refused(BadText, read, "assembly 13\nleave ada\nwait")
        self.refused(BadText, read, "assembly 3\nleave ada\nwait")
        self.refused(BadText, read, "assembly 0\n")
        self.refused(BadCount, read, "assembly 0\nleave ada")
        self.refused(BadCount, read, "assembly 13\ncome ada y\nenter y")
        self.refused(NoPerson, read, "assembly 3\nleave ada\nenter yyn")
        self.refused(NotBorne, read, "assembly 3\nenter yyn\nleave ada")

    def test_long_texts_are_answered_soon(self):
        for text in ("\n" * 40000, "assembly 3" + "\n" * 39990, "a" * 40000, "assembly 3\n" + "leave a\n" * 4990):
            self.assert_soon(self.refused, BadText, read, text)
        self.assert_soon(self.refused, NoPerson, read, "assembly 3" + "\nleave a" * 4990)


if __name__ == "__main__":
    unittest.main()
