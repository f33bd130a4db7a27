"""What can be asked of an assembly, and its narrowing to some of its questions."""

from wapentake.assembly import Assembly
from wapentake.fills import check_ruling, pairs_given
from wapentake.rows import check_question, check_row, check_untold
from wapentake.states import check_oath, check_person, numbers_sworn, swearers_of


def folk(assembly):
    """All names, in the order of their coming."""
    return list(assembly.now.people)


def row_of(assembly, name):
    """Somebody's row."""
    check_person(assembly.now, name)
    return assembly.now.people[name]


def table_of(assembly):
    """A table of the folk's rows."""
    return assembly.now.table.twin()


def oaths_of(assembly):
    """The standing oaths (number, q, a, r, b), by their numbers."""
    return [(number,) + oath for number, (oath, names) in assembly.now.oaths.items()]


def swearers(assembly, number):
    """Who has sworn a standing oath, in the order of swearing."""
    check_oath(assembly.now, number)
    return swearers_of(assembly.now, number)


def sworn_by(assembly, name):
    """The rising numbers of the standing oaths that somebody has sworn."""
    check_person(assembly.now, name)
    return numbers_sworn(assembly.now, name)


def roll(assembly):
    """All entries, by their numbers."""
    return list(assembly.now.entries)


def deeds(assembly):
    """The deeds that stand, in their order."""
    return [deed for deed, kept in assembly.behind]


def undone(assembly):
    """The deeds that could be redone, the next one first."""
    return [deed for deed, kept in reversed(assembly.ahead)]


def bearers(assembly, row, q, r):
    """The names, in the order of coming, of those who answer both questions as a row."""
    check_row(row, assembly.questions)
    check_question(q, assembly.questions)
    check_question(r, assembly.questions)
    return [name for name, own in assembly.now.people.items() if own[q] == row[q] and own[r] == row[r]]


def pillars(assembly, row):
    """The names, in the order of coming, of those without whom a ruling could not come about."""
    check_ruling(assembly.now.table, row)
    lonely = pairs_given(assembly.now.table, row, 1)
    return [name for name, own in assembly.now.people.items()
            if any([own[q] == row[q] and own[r] == row[r] for q, r in lonely])]


def narrowed(assembly, questions):
    """An assembly of the same folk, each with the answers to these questions alone."""
    for at, question in enumerate(questions):
        check_question(question, assembly.questions)
        check_untold(question, questions[:at])
    # A choice of no questions is refused here; one of too many doesn't come so far.
    told = Assembly(len(questions))
    for name, row in assembly.now.people.items():
        told.come(name, "".join([row[question] for question in questions]))
    return told
