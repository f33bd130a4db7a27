"""Ways over rulings that turn one bundle at a time, and what lies on the shortest ones."""

from wapentake.bonds import bundles, lowest_questions
from wapentake.errors import Unmatched
from wapentake.fills import check_ruling, fits, gaps, lacks, matching
from wapentake.rows import check_pattern, differ, go, turned


def steps(table, one, other):
    """How many bundles two rulings answer unlike."""
    check_ruling(table, one)
    check_ruling(table, other)
    return len([question for question in lowest_questions(table) if one[question] != other[question]])


def way(table, one, other):
    """A shortest way from one ruling to another."""
    check_ruling(table, one)
    check_ruling(table, other)
    told = [one]
    while told[-1] != other:
        told.append(step_towards(table, told[-1], other))
    return told


def middle(table, one, two, three):
    """What three rulings go for."""
    check_ruling(table, one)
    check_ruling(table, two)
    check_ruling(table, three)
    return go(one, two, three)


def box(table, one, other):
    """All rulings on shortest ways between two rulings, rising."""
    check_ruling(table, one)
    check_ruling(table, other)
    return matching(table, "".join([a if a == b else "-" for a, b in zip(one, other)]))


def neighbours(table, row):
    """The rulings to which the turning of one bundle leads, in the order of the bundles."""
    check_ruling(table, row)
    near = [turned(row, [question for question, sign in bundle]) for bundle in bundles(table)]
    return [told for told in near if not lacks(table, told)]


def nearest(table, row, pattern):
    """The ruling nearest to a row of those that match a pattern."""
    check_ruling(table, row)
    check_pattern(pattern, table.questions)
    if gaps(table, pattern):
        raise Unmatched()
    # An answer of the row that fits is had by some ruling that matches. The nearest one gives up no such answer,
    # as it lies on a shortest way from the row to that ruling.
    return turned(row, [question for question, sign in enumerate(row) if not fits(table, pattern, question, sign)])


def step_towards(table, row, goal):
    """A ruling to which the turning of one bundle leads and that is nearer to the goal, another ruling."""
    far = len(differ(row, goal))
    return [near for near in neighbours(table, row) if len(differ(near, goal)) < far][0]
