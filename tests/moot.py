"""An assembly as the document tells it, told anew from its deeds each time: what the program's own is held against."""

import itertools
import random

from reference import OTHER, all_rows, facts, filled_with, holds, standing_pairs, table_facts
from wapentake.asks import deeds, undone
from wapentake.assembly import Assembly
from wapentake.errors import (BadName, BadRow, BadSign, Broken, Entered, NoEntry, NoOath, NoPerson, NoQuestion,
                              NotBorne, NothingLeft, NotStanding, NotSworn, Same, Sworn, Taken, WapentakeError)

NAMES = ("ada", "bo7", "c", "d23456789012")
WRONG_NAMES = ("", "7a", "Ada", "a b", "ada\n", " ada", "a-b", "d234567890123", "a_", "0")


def refuse(due, error):
    if due:
        raise error()


def sides(oath):
    q, a, r, b = oath
    return (oath, (r, OTHER[b], q, OTHER[a]))


def lacks_of(rows, row):
    stands = standing_pairs(rows)
    pairs = itertools.combinations_with_replacement(range(len(row)), 2)
    return [(q, r) for q, r in pairs if (q, row[q], r, row[r]) not in stands]


class Hall:
    """What stands behind a list of deeds, done one by one from the beginning."""

    def __init__(self, questions):
        self.questions = questions
        self.folk = []
        self.oaths = []
        self.many_oaths = 0
        self.roll = []

    def rows(self):
        return [row for name, row in self.folk]

    def row_of(self, name):
        refuse(name not in dict(self.folk), NoPerson)
        return dict(self.folk)[name]

    def check_row(self, row):
        refuse(len(row) != self.questions or set(row) - set("ny"), BadRow)

    def check_oaths(self, row):
        refuse(not all(holds(row, oath) for number, oath, names in self.oaths), Broken)

    def check_answers(self, questions, signs):
        refuse(any(question not in range(self.questions) for question in questions), NoQuestion)
        refuse(any(sign not in ("y", "n") for sign in signs), BadSign)

    def fall(self):
        fell = []
        for at, (number, row, how, lack) in enumerate(self.roll):
            missing = lacks_of(self.rows(), row)
            if how == "standing" and missing:
                self.roll[at] = (number, row, "fallen", min(missing))
                fell.append(number)
        return fell

    def come(self, name, row):
        form = name[:1] in list("abcdefghijklmnopqrstuvwxyz") and len(name) <= 12
        refuse(not form or set(name) - set("abcdefghijklmnopqrstuvwxyz0123456789"), BadName)
        refuse(name in dict(self.folk), Taken)
        self.check_row(row)
        self.check_oaths(row)
        self.folk.append((name, row))

    def leave(self, name):
        self.folk.remove((name, self.row_of(name)))
        for number, oath, names in list(self.oaths):
            self.forget(number, name)
        return self.fall()

    def turn(self, name, question, sign):
        row = self.row_of(name)
        self.check_answers([question], [sign])
        refuse(row[question] == sign, Same)
        fresh = row[:question] + sign + row[question + 1:]
        self.check_oaths(fresh)
        self.folk[self.folk.index((name, row))] = (name, fresh)
        return self.fall()

    def swear(self, name, q, a, r, b):
        self.row_of(name)
        self.check_answers([q, r], [a, b])
        refuse(not all(holds(row, (q, a, r, b)) for row in self.rows()), Broken)
        for number, oath, names in self.oaths:
            if oath in sides((q, a, r, b)):
                refuse(name in names, Sworn)
                names.append(name)
                return number
        self.oaths.append((self.many_oaths, (q, a, r, b), [name]))
        self.many_oaths += 1
        return self.many_oaths - 1

    def recant(self, name, number):
        self.row_of(name)
        standing = {each: names for each, oath, names in self.oaths}
        refuse(number not in standing, NoOath)
        refuse(name not in standing[number], NotSworn)
        self.forget(number, name)

    def forget(self, number, name):
        for each, oath, names in self.oaths:
            if each == number and name in names:
                names.remove(name)
        self.oaths = [entry for entry in self.oaths if entry[2]]

    def enter(self, row):
        self.check_row(row)
        refuse(lacks_of(self.rows(), row), NotBorne)
        refuse(any(entry[1:3] == (row, "standing") for entry in self.roll), Entered)
        self.roll.append((len(self.roll), row, "standing", None))
        return len(self.roll) - 1

    def strike(self, number):
        refuse(number not in range(len(self.roll)), NoEntry)
        refuse(self.roll[number][2] != "standing", NotStanding)
        self.roll[number] = (number, self.roll[number][1], "struck", None)


class Moot:
    """Deeds, undoings and redoings of an assembly."""

    def __init__(self, questions):
        self.questions = questions
        self.deeds = []
        self.undone = []

    def hall(self, deeds):
        """What stands behind these deeds, and what the last one tells."""
        told, hall = None, Hall(self.questions)
        for word, *handed in deeds:
            told = getattr(hall, word)(*handed)
        return hall, told

    def do(self, word, *handed):
        if word == "undo":
            refuse(not self.deeds, NothingLeft)
            self.undone.insert(0, self.deeds.pop())
            return self.undone[0]
        if word == "redo":
            refuse(not self.undone, NothingLeft)
            self.deeds.append(self.undone.pop(0))
            return self.deeds[-1]
        deed = (word,) + handed
        hall, told = self.hall(self.deeds + [deed])
        self.deeds, self.undone = self.deeds + [deed], []
        return told

    def facts(self):
        """The same as the program's own assembly is asked for."""
        hall, told = self.hall(self.deeds)
        sworn = [(name, [number for number, oath, names in hall.oaths if name in names]) for name, row in hall.folk]
        return {"questions": self.questions, "folk": hall.folk,
                "table": table_facts(filled_with(self.questions, hall.rows())),
                "oaths": [((number,) + oath, names) for number, oath, names in hall.oaths], "sworn": sworn,
                "roll": hall.roll, "deeds": self.deeds, "undone": self.undone}


def met(questions, rows):
    """An assembly to which p0, p1 and so on have come with these rows."""
    assembly = Assembly(questions)
    for number, row in enumerate(rows):
        assembly.come(f"p{number}", row)
    return assembly


def do(assembly, deed):
    """Let an assembly do a deed that is told as a tuple."""
    word, *handed = deed
    return getattr(assembly, word)(*handed)


def history(assembly):
    """All that a twin can be asked for, back to the beginning and on to the end."""
    twin = assembly.twin()
    told = [facts(twin)]
    while deeds(twin):
        twin.undo()
        told.append(facts(twin))
    while undone(twin):
        twin.redo()
        told.append(facts(twin))
    return told


def outcome(deed, *handed):
    """What a deed tells, or the class of its refusal."""
    try:
        return ("told", deed(*handed))
    except WapentakeError as error:
        return ("refused", type(error))


def drawn_deeds(questions, many, seed):
    """Always the same deeds, undoings and redoings; most can be done, some are refused."""
    draw = random.Random(seed)
    rows = [draw.choice(all_rows(questions)) for each in range(5)]
    kinds = ["come"] * 6 + ["leave"] * 2 + ["turn"] * 6 + ["swear"] * 6 + ["recant"] * 2 + ["enter"] * 6
    kinds += ["strike", "undo", "undo", "redo"]
    return [drawn_deed(draw, draw.choice(kinds), questions, rows) for each in range(many)]


def drawn_deed(draw, word, questions, rows):
    name = draw.choice(NAMES if draw.random() < 0.95 else WRONG_NAMES)
    row = draw.choice(rows if draw.random() < 0.7 else all_rows(questions) if draw.random() < 0.9 else ["yx", ""])
    asked = [draw.randrange(questions) if draw.random() < 0.96 else draw.choice([-1, questions]) for each in range(2)]
    signs = [draw.choice("ny") if draw.random() < 0.96 else draw.choice(["", "Y", "-"]) for each in range(2)]
    number = draw.choice([0, 0, 1, 1, 2, 3, 4, 5, 6, -1])
    handed = {"come": (name, row), "leave": (name,), "turn": (name, asked[0], signs[0]), "recant": (name, number),
              "swear": (name, asked[0], signs[0], asked[1], signs[1]), "enter": (row,), "strike": (number,)}
    return (word,) + handed.get(word, ())
