"""What the tests hold the program against: the document's words, tried out row by row and ring by ring."""

import copy
import inspect
import itertools
import random
import time
import unittest

from wapentake.asks import deeds, folk, oaths_of, roll, row_of, swearers, sworn_by, table_of, undone
from wapentake.assembly import Assembly
from wapentake.table import Table

FORTY = 10 ** 39
SIXTY = 10 ** 60 - 1
OTHER = {"y": "n", "n": "y"}
# Signs that are no answers and no stroke.
WRONG_SIGNS = ("Y", "N", " ", "\n", "0", "1", "a", "x", "~", "_")
# A square of four rulings with a fifth one behind one corner; no other row comes about by threes of these.
SQUARE = ["nnn", "ynn", "nyn", "yyn", "yyy"]
# Far more than any answer wants, and far less than a trial of all threes of 4096 rulings would take.
SOON = 5


def all_rows(questions):
    return ["".join(signs) for signs in itertools.product("ny", repeat=questions)]


def all_patterns(questions):
    return ["".join(signs) for signs in itertools.product("ny-", repeat=questions)]


def filled_with(questions, rows):
    table = Table(questions)
    for row in rows:
        table.add(row)
    return table


def state(thing):
    """All that can be asked of a table or an assembly."""
    return facts(thing) if isinstance(thing, Assembly) else table_facts(thing)


def facts(assembly):
    return {"questions": assembly.questions, "folk": [(name, row_of(assembly, name)) for name in folk(assembly)],
            "table": table_facts(table_of(assembly)),
            "oaths": [(oath, swearers(assembly, oath[0])) for oath in oaths_of(assembly)],
            "sworn": [(name, sworn_by(assembly, name)) for name in folk(assembly)],
            "roll": roll(assembly), "deeds": deeds(assembly), "undone": undone(assembly)}


def table_facts(table):
    pairs = itertools.product(range(table.questions), "ny", range(table.questions), "ny")
    return (table.questions, table.many(), table.rows(), [table.count(*pair) for pair in pairs])


def all_row_sets(questions):
    """Every choice of rows but the one of none."""
    rows = all_rows(questions)
    return [list(chosen) for many in range(1, len(rows) + 1) for chosen in itertools.combinations(rows, many)]


def drawn_row_lists(questions, many, most_rows, seed):
    """Always the same lists of 1 to so many rows, some of them with questions that go together or are settled."""
    draw = random.Random(seed)
    told = []
    for at in range(many):
        sources = [draw.randrange(questions + 1) for question in range(questions)]
        flips = [draw.random() < 0.5 for question in range(questions)]
        rows = []
        for each in range(draw.randint(1, most_rows)):
            free = [draw.random() < 0.5 for question in range(questions)] + [True]
            # In each second list the questions follow one another by sources, so that bundles are wide.
            signs = free[:questions] if at % 2 else [free[sources[q]] != flips[q] for q in range(questions)]
            rows.append("".join("y" if sign else "n" for sign in signs))
        told.append(rows)
    return told


def chain(questions):
    """Rows of which each next one says yes to one question more: no two bundles cross."""
    return ["y" * at + "n" * (questions - at) for at in range(questions + 1)]


def wide(questions):
    """Few rows that give all four answers to each two questions, so that every row is a ruling."""
    told = ["n" * questions, "y" * questions]
    for bit in range(4):
        row = "".join("y" if (at + 1) >> bit & 1 else "n" for at in range(questions))
        told += [row, flipped(row, range(questions))]
    return told


def flipped(row, questions):
    return "".join("ny"[sign == "n"] if at in questions else sign for at, sign in enumerate(row))


def two_of_three(*signs):
    return "y" if signs.count("y") >= 2 else "n"


def came_about(rows):
    """All rows that come about when three go, over and over, rising."""
    found = set(rows)
    while True:
        fresh = {"".join(map(two_of_three, *three)) for three in itertools.combinations(sorted(found), 3)} - found
        if not fresh:
            return sorted(found)
        found |= fresh


def standing_pairs(rows):
    """Each two answers that some row gives together."""
    return {(q, row[q], r, row[r]) for row in set(rows) for q in range(len(row)) for r in range(len(row))}


def borne(rows, questions):
    """All rows whose answers stand two by two, rising."""
    stands = standing_pairs(rows)
    pairs = [(q, r) for q in range(questions) for r in range(q, questions)]
    return [row for row in all_rows(questions) if all((q, row[q], r, row[r]) in stands for q, r in pairs)]


def holds(row, oath):
    """Whether a row keeps an oath, by the words of point [16]."""
    q, a, r, b = oath
    return not (row[q] == a and not row[r] == b)


def agrees(row, pattern):
    return all(mark in ("-", sign) for sign, mark in zip(row, pattern))


def answers_to(rows, question):
    return {row[question] for row in rows}


def bundles_of(rows, questions):
    """The rising questions of each bundle, by the words of point [9]."""
    unsettled = [q for q in range(questions) if len(answers_to(rows, q)) == 2]
    found = {tuple(r for r in unsettled if len({row[q] == row[r] for row in rows}) == 1) for q in unsettled}
    return sorted(found)


def crossing_of(rows, questions):
    lowest = [bundle[0] for bundle in bundles_of(rows, questions)]
    pairs = itertools.combinations(range(len(lowest)), 2)
    return [(k, l) for k, l in pairs if len({(row[lowest[k]], row[lowest[l]]) for row in rows}) == 4]


def rings(rulings, bundles, start):
    """How many turnings each ruling is away from one of them, by a search ring by ring."""
    far = {start: 0}
    ring = [start]
    while ring:
        beyond = []
        for row, bundle in itertools.product(ring, bundles):
            near = flipped(row, bundle)
            if near in rulings and near not in far:
                far[near] = far[row] + 1
                beyond.append(near)
        ring = beyond
    return far


def bad_texts(good, stroke):
    """Texts that are no row (or, where a stroke is good, no pattern) of as many questions as a good one has."""
    signs = WRONG_SIGNS if stroke else WRONG_SIGNS + ("-",)
    wrong = [good[:at] + sign + good[at + 1:] for at in range(len(good)) for sign in signs]
    return wrong + ["", good[:-1], good + "y", good + "-", good + " ", " " + good, good + "\n", "y" * 400]


class TableCase(unittest.TestCase):
    def assert_arguments(self, thing, told):
        """That each named function of a module or an object takes arguments of these names."""
        for name, arguments in told.items():
            with self.subTest(name):
                self.assertEqual(list(inspect.signature(getattr(thing, name)).parameters), arguments.split())

    def assert_refused(self, error, table, deed, *handed):
        """That a deed is refused with this very class and leaves the table, and what is handed in, as it was."""
        before = (state(table), lists_in(handed))
        with self.assertRaises(error) as caught:
            deed(*handed)
        self.assertIs(type(caught.exception), error)
        self.assertEqual((state(table), lists_in(handed)), before)

    def assert_own(self, table, deed, *handed):
        """That asking changes nothing, and that whoever changes a told list changes no later answer."""
        before = (state(table), lists_in(handed))
        first = deed(table, *handed)
        kept = copy.deepcopy(first)
        spoil(first)
        self.assertEqual(deed(table, *handed), kept)
        self.assertEqual((state(table), lists_in(handed)), before)

    def assert_soon(self, deed, *handed):
        """What a deed tells, if it tells it soon."""
        start = time.monotonic()
        told = deed(*handed)
        self.assertLess(time.monotonic() - start, SOON, deed.__name__)
        return told


def lists_in(handed):
    return [copy.deepcopy(thing) for thing in handed if isinstance(thing, list)]


def spoil(told):
    """Change a list, and the lists in a list or a tuple, as far as can be."""
    if isinstance(told, (list, tuple)):
        for thing in told:
            spoil(thing)
    if isinstance(told, list):
        told.reverse()
        told.append("spoilt")
        del told[:1]
