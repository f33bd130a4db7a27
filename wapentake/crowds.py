"""Crowds of rulings with weights, and what they go for."""

from wapentake.errors import BadWeight, Even
from wapentake.fills import check_ruling
from wapentake.rows import check_row, differ


def quarrel(crowd, row):
    """The sum, over the pairs, of the weight times the number of questions at which the two rows answer unlike."""
    return sum([weight * len(differ(one, row)) for one, weight in crowd])


def voice(table, crowd):
    """The row that has at each question the answer of more than half of the crowd's weight."""
    for row, weight in crowd:
        check_row(row, table.questions)
        check_weight(weight)
        check_ruling(table, row)
    whole = sum([weight for row, weight in crowd])
    if whole % 2 == 0:
        raise Even()
    return "".join([answer_of_most(weight_of_yes(crowd, question), whole) for question in range(table.questions)])


def common(table):
    """The pattern that has at each question the answer of more than half of the table's rows, "-" where none is."""
    many = table.many()
    return "".join([answer_of_most(table.count(question, "y", question, "y"), many)
                    for question in range(table.questions)])


def check_weight(weight):
    """Refuse a weight below 1."""
    if weight < 1:
        raise BadWeight()


def weight_of_yes(crowd, question):
    """The weight of all pairs whose rows answer yes to a question."""
    return sum([weight for row, weight in crowd if row[question] == "y"])


def answer_of_most(yes, whole):
    """The answer of more than half of a whole of which so much is for yes, "-" where there is none."""
    if 2 * yes > whole:
        return "y"
    return "n" if 2 * yes < whole else "-"
