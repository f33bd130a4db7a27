"""Which rows are rulings of a table's rows, and which patterns are matched by some ruling."""

from wapentake.errors import Empty, NotBorne
from wapentake.rows import SIGNS, check_pattern, check_row, with_answer


def check_ruling(table, row):
    """Refuse a text that is no row, then a row that is no ruling."""
    if lacks(table, row):
        raise NotBorne()


def check_filled(table):
    """Refuse a table that has no rows."""
    if table.many() == 0:
        raise Empty()


def lacks(table, row):
    """All pairs of questions, the lower first or both the same, that no row answers both as this row, rising."""
    check_row(row, table.questions)
    return gaps(table, row)


def rulings(table):
    """All rulings, rising, each once."""
    return matching(table, "-" * table.questions)


def matching(table, pattern):
    """The rulings that match a pattern, rising, each once."""
    check_pattern(pattern, table.questions)
    if gaps(table, pattern):
        return []
    # What stands two by two can always be filled further, so no part that is kept here comes to nothing.
    parts = [pattern]
    for question in open_places(pattern):
        parts = [with_answer(part, question, sign) for part in parts for sign in SIGNS
                 if fits(table, part, question, sign)]
    return parts


def filled(table, pattern):
    """("row", a ruling that matches) or ("nobody", q, r), two answers of the pattern that no row gives together."""
    check_pattern(pattern, table.questions)
    check_filled(table)
    missing = gaps(table, pattern)
    if missing:
        q, r = missing[0]
        return ("nobody", q, r)
    return ("row", fill(table, pattern))


def meeting(table, patterns):
    """("row", a ruling that matches all) or ("apart", k, l), the numbers of two that no ruling matches both."""
    for pattern in patterns:
        check_pattern(pattern, table.questions)
    check_filled(table)
    for k, pattern in enumerate(patterns):
        if gaps(table, pattern):
            return ("apart", k, k)
    return joined(table, patterns)


def joined(table, patterns):
    """What meeting tells of patterns each of which is matched by itself."""
    # The first pattern that has an answer speaks for all that have it: so each two answers are held together once,
    # and not each two patterns.
    tellers = {}
    for number, pattern in enumerate(patterns):
        fresh = [answer for answer in answers(pattern) if answer not in tellers]
        for r, b in fresh:
            for q, a in tellers:
                if table.count(q, a, r, b) == 0:
                    return ("apart", tellers[(q, a)], number)
        for answer in fresh:
            tellers[answer] = number
    whole = "-" * table.questions
    for question, sign in tellers:
        whole = with_answer(whole, question, sign)
    return ("row", fill(table, whole))


def gaps(table, pattern):
    """All pairs of questions, the lower first or both the same, whose answers in a pattern no row gives together."""
    return pairs_given(table, pattern, 0)


def pairs_given(table, pattern, many):
    """All pairs of questions, the lower first or both the same, whose answers in a pattern just so many rows give."""
    given = answers(pattern)
    return [(q, r) for q, a in given for r, b in given if q <= r and table.count(q, a, r, b) == many]


def answers(pattern):
    """The rising pairs (question, answer) of a pattern's answers."""
    return [(question, sign) for question, sign in enumerate(pattern) if sign != "-"]


def open_places(pattern):
    """The rising questions to which a pattern has no answer."""
    return [question for question, sign in enumerate(pattern) if sign == "-"]


def fits(table, pattern, question, sign):
    """Whether some row gives an answer, and for each answer of a pattern some row gives both."""
    given = answers(pattern) + [(question, sign)]
    return all([table.count(question, sign, r, b) > 0 for r, b in given])


def fill(table, pattern):
    """The ruling lowest in the order of texts that matches a pattern, whose answers stand in the table two by two."""
    # One of both signs always fits: where answers stand two by two, some ruling has them all.
    told = pattern
    for question in open_places(pattern):
        sign = "n" if fits(table, told, question, "n") else "y"
        told = with_answer(told, question, sign)
    return told
