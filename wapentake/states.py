"""How an assembly stands at one time: its folk, their oaths and the roll."""

from wapentake.errors import Broken, NoOath, NoPerson
from wapentake.fills import gaps
from wapentake.oaths import keeps, other_side
from wapentake.table import Table


class State:
    """Folk, oaths and roll. No part of it is changed, but another one put in its place: so states can share parts, and
    an undoing only has to go back to the state ahead of the deed."""

    def __init__(self, questions):
        self.table = Table(questions)
        # The row of each person, in the order of their coming.
        self.people = {}
        # By its number each standing oath, with the names of those who have sworn it in the order of their swearing.
        self.oaths = {}
        self.next_oath = 0
        self.entries = []

    def twin(self):
        """A state of its own with the same parts."""
        double = State(self.table.questions)
        double.table = self.table
        double.people = self.people
        double.oaths = self.oaths
        double.next_oath = self.next_oath
        double.entries = self.entries
        return double

    def seat(self, name, row):
        """Give somebody a row; whoever had none stands behind all others."""
        self.table = self.table.twin()
        if name in self.people:
            self.table.take(self.people[name])
        self.table.add(row)
        self.people = dict(self.people)
        self.people[name] = row

    def unseat(self, name):
        """Take somebody away, with all oaths that this one has sworn."""
        for number in numbers_sworn(self, name):
            self.release(name, number)
        self.table = self.table.twin()
        self.table.take(self.people[name])
        self.people = dict(self.people)
        del self.people[name]

    def bind(self, name, number, oath):
        """Let somebody swear the oath of a number, a standing one or the next one."""
        self.oaths = dict(self.oaths)
        if number in self.oaths:
            standing, names = self.oaths[number]
            self.oaths[number] = (standing, names + [name])
        else:
            self.oaths[number] = (oath, [name])
            self.next_oath = number + 1

    def release(self, name, number):
        """Let somebody take a standing oath back."""
        oath, names = self.oaths[number]
        left = [each for each in names if each != name]
        self.oaths = dict(self.oaths)
        if left:
            self.oaths[number] = (oath, left)
        else:
            del self.oaths[number]

    def inscribe(self, row):
        """Put a standing entry at the roll's end."""
        self.entries = self.entries + [(len(self.entries), row, "standing", None)]

    def cross_out(self, number):
        """Let an entry be a struck one."""
        self.entries = list(self.entries)
        self.entries[number] = (number, self.entries[number][1], "struck", None)

    def let_fall(self, gone):
        """Let the standing entries fall that can't come about without a row that went; their rising numbers."""
        lost = gaps(self.table, gone)
        left = [without(entry, gone, lost) for entry in self.entries]
        fell = [ahead[0] for ahead, behind in zip(self.entries, left) if ahead != behind]
        self.entries = left
        return fell


def without(entry, gone, lost):
    """What an entry is where nobody answers the lost pairs of questions any more as the row did that went."""
    number, row, how, lack = entry
    if how != "standing":
        return entry
    # A standing entry's row had no lack, so it lacks now what it had of the lost pairs and nothing else.
    lacking = [(q, r) for q, r in lost if row[q] == gone[q] and row[r] == gone[r]]
    return (number, row, "fallen", lacking[0]) if lacking else entry


def check_person(state, name):
    """Refuse a name that nobody there has."""
    if name not in state.people:
        raise NoPerson()


def check_oath(state, number):
    """Refuse a number that no standing oath has."""
    if number not in state.oaths:
        raise NoOath()


def check_kept(state, row):
    """Refuse a row that doesn't keep a standing oath."""
    if not keeps(row, standing_oaths(state)):
        raise Broken()


def standing_oaths(state):
    """The standing oaths, by their numbers."""
    return [oath for oath, names in state.oaths.values()]


def number_for(state, oath):
    """The number of a standing oath that is the same, or the next number where there is none."""
    for number, (standing, names) in state.oaths.items():
        if oath == standing or oath == other_side(standing):
            return number
    return state.next_oath


def swearers_of(state, number):
    """Who has sworn the oath of a number, in the order of swearing; nobody where it doesn't stand."""
    oath, names = state.oaths.get(number, (None, []))
    return list(names)


def numbers_sworn(state, name):
    """The rising numbers of the standing oaths that somebody has sworn."""
    return [number for number, (oath, names) in state.oaths.items() if name in names]
