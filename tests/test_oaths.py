"""Oaths kept, led to, torn, and what follows from them: points [2] to [5], [16] and wapentake/oaths.py."""

import copy
import itertools
import random
import unittest

from reference import (FORTY, OTHER, SIXTY, WRONG_SIGNS, TableCase, agrees, all_patterns, all_rows, bad_texts,
                       holds)
from wapentake import oaths
from wapentake.errors import BadCount, BadPattern, BadSign, NoQuestion, Torn
from wapentake.oaths import follows, keeping, keeps, torn

WRONG_COUNTS = (0, -1, 13, 14, -12, FORTY, -SIXTY)


def answers(questions):
    return list(itertools.product(range(questions), "ny"))


def all_oaths(questions):
    return [one + two for one, two in itertools.product(answers(questions), repeat=2)]


def keepers(questions, sworn):
    return [row for row in all_rows(questions) if all(holds(row, oath) for oath in sworn)]


def leads(oath, one, two):
    q, a, r, b = oath
    return (one, two) in (((q, a), (r, b)), ((r, OTHER[b]), (q, OTHER[a])))


def drawn_oath_lists(questions, many, most, seed):
    """Always the same lists of none to so many oaths."""
    draw = random.Random(seed)
    return [[draw.choice(all_oaths(questions)) for each in range(draw.randint(0, most))] for at in range(many)]


def small_lists():
    """Lists of oaths, each with its number of questions, torn ones and others."""
    told = [(1, list(chosen)) for many in range(4) for chosen in itertools.product(all_oaths(1), repeat=many)]
    told += [(2, list(chosen)) for many in range(3) for chosen in itertools.combinations(all_oaths(2), many)]
    for questions, many, most in ((2, 60, 6), (3, 120, 9), (4, 70, 11), (5, 40, 13)):
        told += [(questions, sworn) for sworn in drawn_oath_lists(questions, many, most, seed=400 + questions)]
    return told


LISTS = small_lists()


class OathCase(TableCase):
    def assert_walk(self, told, sworn):
        """That each next answer of a list is led to from the one ahead by one of the oaths."""
        self.assertIs(type(told), list)
        self.assertGreater(len(told), 0)
        for answer in told:
            self.assertIs(type(answer), tuple)
            question, sign = answer
            self.assertIs(type(question), int)
            self.assertIn(sign, ("y", "n"))
        for one, two in zip(told, told[1:]):
            self.assertTrue(any(leads(oath, one, two) for oath in sworn), (told, sworn))

    def assert_torn(self, told, sworn):
        self.assert_walk(told, sworn)
        self.assertEqual(told[0], told[-1])
        question, sign = told[0]
        self.assertIn((question, OTHER[sign]), told)

    def assert_follows(self, told, questions, sworn, one, two):
        """That what is told of two answers is so, held against all rows."""
        rows = [row for row in keepers(questions, sworn) if row[one[0]] == one[1]]
        shown = [row for row in rows if row[two[0]] != two[1]]
        self.assertIs(type(told), tuple)
        kind, proof = told
        if shown:
            self.assertEqual(kind, "row")
            self.assertIn(proof, shown)
            return
        self.assertEqual(kind, "walk")
        self.assert_walk(proof, sworn)
        ends = [(one, two), (one, (one[0], OTHER[one[1]])), ((two[0], OTHER[two[1]]), two)]
        self.assertIn((proof[0], proof[-1]), ends)

    def assert_refused_oaths(self, error, deed, *handed):
        before = copy.deepcopy(handed)
        with self.assertRaises(error) as caught:
            deed(*handed)
        self.assertIs(type(caught.exception), error)
        self.assertEqual(handed, before)


class TestInterface(OathCase):
    def test_the_arguments_are_called_as_told(self):
        self.assert_arguments(oaths, {
            "keeps": "row oaths", "torn": "questions oaths", "keeping": "questions oaths pattern",
            "follows": "questions oaths q a r b"})


class TestKeeps(OathCase):
    def test_written_examples(self):
        oath = (0, "y", 1, "n")
        self.assertIs(keeps("yn", [oath]), True)
        self.assertIs(keeps("yy", [oath]), False)
        self.assertIs(keeps("nn", [oath]), True)
        self.assertIs(keeps("ny", [oath]), True)
        self.assertIs(keeps("yn", [oath, (1, "n", 0, "n")]), False)

    def test_no_oaths_are_kept_by_all(self):
        for row in all_rows(3):
            self.assertIs(keeps(row, []), True)

    def test_an_oath_of_one_question_and_itself(self):
        self.assertIs(keeps("y", [(0, "y", 0, "y")]), True)
        self.assertIs(keeps("n", [(0, "y", 0, "y")]), True)
        self.assertIs(keeps("y", [(0, "y", 0, "n")]), False)
        self.assertIs(keeps("n", [(0, "y", 0, "n")]), True)

    def test_each_oath_and_each_row(self):
        for questions in (1, 2, 3):
            for row, oath in itertools.product(all_rows(questions), all_oaths(questions)):
                self.assertIs(keeps(row, [oath]), holds(row, oath))

    def test_lists(self):
        for questions, sworn in LISTS:
            kept = keepers(questions, sworn)
            self.assertEqual([row for row in all_rows(questions) if keeps(row, sworn)], kept)


class TestTorn(OathCase):
    def test_no_oaths(self):
        for questions in (1, 2, 12):
            self.assertIsNone(torn(questions, []))

    def test_written_examples(self):
        self.assertIsNone(torn(1, [(0, "y", 0, "n")]))
        self.assertIn(torn(1, [(0, "y", 0, "n"), (0, "n", 0, "y")]),
                      ([(0, "y"), (0, "n"), (0, "y")], [(0, "n"), (0, "y"), (0, "n")]))
        sworn = [(0, "y", 1, "y"), (1, "y", 0, "n"), (0, "n", 1, "n"), (1, "n", 0, "y")]
        self.assert_torn(torn(2, sworn), sworn)
        for left in range(4):
            self.assertIsNone(torn(2, sworn[:left] + sworn[left + 1:]))

    def test_oaths_of_one_question_and_itself_that_all_keep(self):
        self.assertIsNone(torn(2, [(0, "y", 0, "y"), (0, "n", 0, "n"), (1, "y", 1, "y")]))

    def test_against_all_rows(self):
        seen = set()
        for questions, sworn in LISTS:
            told = torn(questions, sworn)
            seen.add(told is None)
            if keepers(questions, sworn):
                self.assertIsNone(told)
            else:
                self.assert_torn(told, sworn)
        self.assertEqual(seen, {True, False})

    def test_an_oath_leads_by_its_other_side_too(self):
        # From yes to 0 the first one leads to no; the other two lead from no to 0 back, but by their other sides alone.
        sworn = [(0, "y", 0, "n"), (1, "n", 0, "y"), (0, "n", 1, "n")]
        self.assert_torn(torn(2, sworn), sworn)

    def test_a_long_walk(self):
        around = [(at, "y", (at + 1) % 12, "y") for at in range(11)] + [(11, "y", 0, "n")]
        self.assertIsNone(torn(12, around))
        back = [(at, "n", at + 1, "n") for at in range(11)] + [(11, "n", 0, "y")]
        self.assert_torn(torn(12, around + back), around + back)
        for left in range(12):
            self.assertIsNone(torn(12, around + back[:left] + back[left + 1:]))

    def test_two_hundred_oaths_are_answered_soon(self):
        row = "ynynyyynnnyn"
        kept = [oath for oath in all_oaths(12) if holds(row, oath)]
        self.assertIsNone(self.assert_soon(torn, 12, kept[::2][:200]))
        for sworn in drawn_oath_lists(12, 8, 200, seed=410):
            told = self.assert_soon(torn, 12, sworn)
            if told is not None:
                self.assert_torn(told, sworn)


class TestKeeping(OathCase):
    def test_written_examples(self):
        self.assertEqual(keeping(2, [(0, "y", 1, "n")], "y-"), "yn")
        self.assertEqual(keeping(2, [(0, "y", 1, "n")], "-y"), "ny")
        self.assertIsNone(keeping(2, [(0, "y", 1, "n")], "yy"))
        self.assertIn(keeping(2, [], "y-"), ("yn", "yy"))
        self.assertEqual(keeping(1, [(0, "y", 0, "n")], "-"), "n")
        self.assertIsNone(keeping(1, [(0, "y", 0, "n")], "y"))

    def test_against_all_rows(self):
        for questions, sworn in LISTS:
            kept = keepers(questions, sworn)
            for pattern in all_patterns(questions):
                fit = [row for row in kept if agrees(row, pattern)]
                told = keeping(questions, sworn, pattern)
                if fit:
                    self.assertIn(told, fit)
                else:
                    self.assertIsNone(told)

    def test_torn_oaths_are_kept_by_none_whatever_the_pattern(self):
        sworn = [(2, "y", 2, "n"), (2, "n", 2, "y")]
        for pattern in all_patterns(3):
            self.assertIsNone(keeping(3, sworn, pattern))

    def test_a_row_by_itself(self):
        for row in all_rows(4):
            self.assertEqual(keeping(4, [], row), row)

    def test_twelve_questions_are_answered_soon(self):
        row = "ynynyyynnnyn"
        kept = [oath for oath in all_oaths(12) if holds(row, oath)]
        for sworn in (kept[:200], kept[::2][:200], kept[-200:], []):
            for pattern in ("-" * 12, row, row[:6] + "-" * 6, "-" * 6 + row[6:]):
                told = self.assert_soon(keeping, 12, sworn, pattern)
                self.assertTrue(agrees(told, pattern) and all(holds(told, oath) for oath in sworn))


class TestFollows(OathCase):
    def test_an_answer_follows_from_itself(self):
        for questions, sworn in ((1, []), (2, [(0, "y", 1, "y")]), (12, []), (1, [(0, "y", 0, "n")])):
            for question, sign in answers(questions):
                told = follows(questions, sworn, question, sign, question, sign)
                self.assertEqual(told[0], "walk")
        self.assertEqual(follows(1, [], 0, "y", 0, "y"), ("walk", [(0, "y")]))
        self.assertEqual(follows(3, [(0, "y", 1, "y")], 2, "n", 2, "n"), ("walk", [(2, "n")]))

    def test_a_walk_from_the_one_to_the_other(self):
        self.assertEqual(follows(2, [(0, "y", 1, "n")], 0, "y", 1, "n"), ("walk", [(0, "y"), (1, "n")]))
        self.assertEqual(follows(2, [(0, "y", 1, "n")], 1, "y", 0, "n"), ("walk", [(1, "y"), (0, "n")]))
        sworn = [(0, "y", 1, "n"), (2, "y", 1, "y")]
        self.assertEqual(follows(3, sworn, 0, "y", 2, "n"), ("walk", [(0, "y"), (1, "n"), (2, "n")]))

    def test_a_walk_to_the_other_answer_of_the_ones_question(self):
        self.assertEqual(follows(2, [(0, "y", 0, "n")], 0, "y", 1, "y"), ("walk", [(0, "y"), (0, "n")]))
        self.assertEqual(follows(2, [(0, "y", 0, "n")], 0, "y", 1, "n"), ("walk", [(0, "y"), (0, "n")]))
        self.assertEqual(follows(2, [(0, "y", 0, "n")], 0, "y", 0, "n"), ("walk", [(0, "y"), (0, "n")]))

    def test_a_walk_from_the_other_answer_of_the_others_question(self):
        self.assertEqual(follows(2, [(1, "n", 1, "y")], 0, "y", 1, "y"), ("walk", [(1, "n"), (1, "y")]))
        self.assertEqual(follows(2, [(1, "n", 1, "y")], 0, "n", 1, "y"), ("walk", [(1, "n"), (1, "y")]))
        self.assertEqual(follows(2, [(1, "n", 1, "y")], 1, "n", 1, "y"), ("walk", [(1, "n"), (1, "y")]))

    def test_a_row_where_it_does_not_follow(self):
        self.assertEqual(follows(1, [], 0, "y", 0, "n"), ("row", "y"))
        self.assertEqual(follows(2, [], 0, "y", 1, "y"), ("row", "yn"))
        self.assertEqual(follows(2, [(0, "y", 1, "n")], 1, "n", 0, "y"), ("row", "nn"))
        self.assertEqual(follows(2, [(0, "n", 0, "y")], 1, "n", 1, "y"), ("row", "yn"))

    def test_against_all_rows(self):
        for questions, sworn in LISTS:
            if keepers(questions, sworn):
                for one, two in itertools.product(answers(questions), repeat=2):
                    self.assert_follows(follows(questions, sworn, *one, *two), questions, sworn, one, two)

    def test_all_kinds_came_up_above(self):
        kinds = set()
        for questions, sworn in LISTS:
            if questions == 3 and keepers(3, sworn):
                for one, two in itertools.product(answers(3), repeat=2):
                    kind, proof = follows(3, sworn, *one, *two)
                    kinds.add((kind, kind == "walk" and proof[0] == one, kind == "walk" and proof[-1] == two))
        self.assertEqual(kinds, {("row", False, False), ("walk", True, True), ("walk", True, False),
                                 ("walk", False, True)})

    def test_twelve_questions_are_answered_soon(self):
        chained = [(at, "y", at + 1, "y") for at in range(11)]
        told = self.assert_soon(follows, 12, chained * 18, 0, "y", 11, "y")
        self.assertEqual(told, ("walk", [(at, "y") for at in range(12)]))
        kind, row = self.assert_soon(follows, 12, chained * 18, 11, "y", 0, "y")
        self.assertEqual((kind, row[0], row[11]), ("row", "n", "y"))
        self.assertTrue(all(holds(row, oath) for oath in chained))


class TestRefused(OathCase):
    def asked(self, questions, sworn):
        """Each of the three functions with what it is handed."""
        return [(torn, questions, sworn), (keeping, questions, sworn, "---"),
                (follows, questions, sworn, 0, "y", 1, "y")]

    def refused(self, error, questions, sworn):
        for deed, *handed in self.asked(questions, sworn):
            self.assert_refused_oaths(error, deed, *handed)

    def test_bad_counts(self):
        for questions in WRONG_COUNTS:
            self.refused(BadCount, questions, [])

    def test_bad_counts_are_ahead_of_all(self):
        for questions in WRONG_COUNTS:
            for oath in ((99, "y", 0, "y"), (0, "x", 0, "y"), (-1, "", 0, "")):
                self.refused(BadCount, questions, [oath])
            self.assert_refused_oaths(BadCount, keeping, questions, [], "maybe")
            self.assert_refused_oaths(BadCount, follows, questions, [], 99, "x", 99, "x")

    def test_oaths_of_no_question(self):
        for number in (3, 4, -1, -3, FORTY, -SIXTY):
            self.refused(NoQuestion, 3, [(number, "y", 0, "y")])
            self.refused(NoQuestion, 3, [(0, "y", number, "y")])
            self.refused(NoQuestion, 3, [(0, "y", 2, "y"), (number, "y", number, "y")])

    def test_oaths_of_bad_signs(self):
        for sign in WRONG_SIGNS + ("", "-", "yy", "yn", "y "):
            self.refused(BadSign, 3, [(0, sign, 2, "y")])
            self.refused(BadSign, 3, [(0, "y", 2, sign)])
            self.refused(BadSign, 3, [(0, "y", 2, "y"), (0, sign, 0, sign)])

    def test_within_an_oath_either_number_is_ahead_of_either_sign(self):
        self.refused(NoQuestion, 3, [(3, "x", 0, "y")])
        self.refused(NoQuestion, 3, [(0, "x", 3, "y")])
        self.refused(NoQuestion, 3, [(3, "y", 0, "x")])
        self.refused(NoQuestion, 3, [(0, "y", 3, "x")])

    def test_each_oath_is_looked_at_whole_in_its_turn(self):
        self.refused(BadSign, 3, [(0, "x", 0, "y"), (3, "y", 0, "y")])
        self.refused(BadSign, 3, [(0, "y", 0, "x"), (0, "y", 3, "y")])
        self.refused(NoQuestion, 3, [(0, "y", 3, "y"), (0, "y", 0, "x")])

    def test_bad_patterns(self):
        for text in bad_texts("y-n", stroke=True):
            self.assert_refused_oaths(BadPattern, keeping, 3, [], text)
            self.assert_refused_oaths(BadPattern, keeping, 3, [(0, "y", 1, "n")], text)

    def test_a_bad_pattern_is_behind_each_oath(self):
        self.assert_refused_oaths(NoQuestion, keeping, 3, [(0, "y", 3, "y")], "maybe")
        self.assert_refused_oaths(BadSign, keeping, 3, [(0, "y", 0, "x")], "maybe")
        self.assert_refused_oaths(BadPattern, keeping, 3, [(0, "y", 0, "n"), (0, "n", 0, "y")], "maybe")

    def test_asked_answers(self):
        for number in (2, -1, FORTY, -SIXTY):
            self.assert_refused_oaths(NoQuestion, follows, 2, [], number, "y", 0, "y")
            self.assert_refused_oaths(NoQuestion, follows, 2, [], 0, "y", number, "y")
            self.assert_refused_oaths(NoQuestion, follows, 2, [], number, "x", 0, "x")
            self.assert_refused_oaths(NoQuestion, follows, 2, [], 0, "x", number, "x")
        for sign in WRONG_SIGNS + ("", "-", "yn"):
            self.assert_refused_oaths(BadSign, follows, 2, [], 0, sign, 1, "y")
            self.assert_refused_oaths(BadSign, follows, 2, [], 0, "y", 1, sign)
            self.assert_refused_oaths(BadSign, follows, 2, [], 0, sign, 0, sign)

    def test_asked_answers_are_behind_each_oath(self):
        self.assert_refused_oaths(BadSign, follows, 2, [(0, "x", 0, "y")], 2, "y", 0, "y")
        self.assert_refused_oaths(NoQuestion, follows, 2, [(2, "y", 0, "y")], 0, "x", 0, "y")

    def test_torn_is_behind_all_else(self):
        sworn = [(0, "y", 0, "n"), (0, "n", 0, "y")]
        for one, two in itertools.product(answers(2), repeat=2):
            self.assert_refused_oaths(Torn, follows, 2, sworn, *one, *two)
        self.assert_refused_oaths(NoQuestion, follows, 2, sworn, 2, "y", 0, "y")
        self.assert_refused_oaths(BadSign, follows, 2, sworn, 0, "y", 0, "x")
        self.assert_refused_oaths(NoQuestion, follows, 2, sworn + [(0, "y", 2, "y")], 0, "y", 0, "y")

    def test_nothing_is_changed_and_what_is_told_is_the_askers_own(self):
        sworn = [(0, "y", 1, "y"), (1, "y", 0, "n"), (0, "n", 1, "n"), (1, "n", 0, "y")]
        asked = ((torn, (2, sworn)), (keeping, (2, sworn, "--")), (follows, (2, sworn[:2], 0, "n", 0, "n")))
        for deed, handed in asked:
            before = copy.deepcopy(handed)
            first = deed(*handed)
            kept = copy.deepcopy(first)
            for walk in (first, first[1] if isinstance(first, tuple) else None):
                if isinstance(walk, list):
                    del walk[:]
            self.assertEqual(deed(*handed), kept)
            self.assertEqual(handed, before)


if __name__ == "__main__":
    unittest.main()
