"""An assembly: folk who come, leave and turn, swear oaths and enter rulings, and take any of it back."""

from wapentake.errors import (BadName, Broken, Entered, NoEntry, NotStanding, NothingLeft, NotSworn, Same, Sworn,
                              Taken)
from wapentake.fills import check_ruling
from wapentake.oaths import keeps
from wapentake.rows import check_answers, check_question, check_row, check_sign, is_name, with_answer
from wapentake.states import State, check_kept, check_oath, check_person, number_for, swearers_of


class Assembly:
    """How it stands now, with each deed that stands and each that was undone."""

    def __init__(self, questions):
        self.now = State(questions)
        self.questions = questions
        # Each deed that stands with the state ahead of it, the last one last.
        self.behind = []
        # Each deed that could be redone with the state that it leads to, the next one last.
        self.ahead = []

    def come(self, name, row):
        """Somebody comes with a row."""
        if not is_name(name):
            raise BadName()
        if name in self.now.people:
            raise Taken()
        check_row(row, self.questions)
        check_kept(self.now, row)
        after = self.now.twin()
        after.seat(name, row)
        self.settle(("come", name, row), after)

    def leave(self, name):
        """Somebody leaves; the rising numbers of the entries that fall by it."""
        check_person(self.now, name)
        after = self.now.twin()
        after.unseat(name)
        fell = after.let_fall(self.now.people[name])
        self.settle(("leave", name), after)
        return fell

    def turn(self, name, question, sign):
        """Somebody turns one answer; the rising numbers of the entries that fall by it."""
        check_person(self.now, name)
        check_question(question, self.questions)
        check_sign(sign)
        row = self.now.people[name]
        if row[question] == sign:
            raise Same()
        fresh = with_answer(row, question, sign)
        check_kept(self.now, fresh)
        after = self.now.twin()
        after.seat(name, fresh)
        fell = after.let_fall(row)
        self.settle(("turn", name, question, sign), after)
        return fell

    def swear(self, name, q, a, r, b):
        """Somebody swears an oath, or joins those who have sworn it; the oath's number."""
        check_person(self.now, name)
        check_answers(q, a, r, b, self.questions)
        oath = (q, a, r, b)
        if not all([keeps(row, [oath]) for row in self.now.people.values()]):
            raise Broken()
        number = number_for(self.now, oath)
        if name in swearers_of(self.now, number):
            raise Sworn()
        after = self.now.twin()
        after.bind(name, number, oath)
        self.settle(("swear", name, q, a, r, b), after)
        return number

    def recant(self, name, number):
        """Somebody takes an oath back."""
        check_person(self.now, name)
        check_oath(self.now, number)
        if name not in swearers_of(self.now, number):
            raise NotSworn()
        after = self.now.twin()
        after.release(name, number)
        self.settle(("recant", name, number), after)

    def enter(self, row):
        """A ruling is entered into the roll; the entry's number."""
        check_ruling(self.now.table, row)
        if row in [entered for number, entered, how, lack in self.now.entries if how == "standing"]:
            raise Entered()
        after = self.now.twin()
        after.inscribe(row)
        self.settle(("enter", row), after)
        return len(self.now.entries) - 1

    def strike(self, number):
        """A standing entry is struck."""
        if number < 0 or number >= len(self.now.entries):
            raise NoEntry()
        if self.now.entries[number][2] != "standing":
            raise NotStanding()
        after = self.now.twin()
        after.cross_out(number)
        self.settle(("strike", number), after)

    def undo(self):
        """Bring all back to what it was ahead of the last deed; that deed."""
        return self.shift(self.behind, self.ahead)

    def redo(self):
        """Do the deed again that was undone last; that deed."""
        return self.shift(self.ahead, self.behind)

    def twin(self):
        """An assembly of its own that stands as this one, with the same to undo and to redo."""
        double = Assembly(self.questions)
        # States that were once kept are never changed, so both may keep the same ones.
        double.now = self.now
        double.behind = list(self.behind)
        double.ahead = list(self.ahead)
        return double

    def settle(self, deed, after):
        """Let a deed stand that leads to a state."""
        self.behind.append((deed, self.now))
        self.ahead = []
        self.now = after

    def shift(self, source, goal):
        """Go over to the state kept with a list's last deed, and keep this state with it in the other list."""
        if not source:
            raise NothingLeft()
        deed, kept = source.pop()
        goal.append((deed, self.now))
        self.now = kept
        return deed
