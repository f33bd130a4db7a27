"""Answers, rows, patterns and names, and how any three rows go."""

from wapentake.errors import BadCount, BadPattern, BadRow, BadSign, NoQuestion, Twice

MOST_QUESTIONS = 12
LONGEST_NAME = 12
# Rising, so that what is built sign by sign in this order comes out in the order of texts.
SIGNS = "ny"


def check_count(questions):
    """Refuse a number of questions that is out of bounds."""
    if questions < 1 or questions > MOST_QUESTIONS:
        raise BadCount()


def check_question(question, questions):
    """Refuse a number that none of so many questions has."""
    if question < 0 or question >= questions:
        raise NoQuestion()


def check_sign(sign):
    """Refuse a text that is no answer."""
    if sign != "y" and sign != "n":
        raise BadSign()


def check_answers(q, a, r, b, questions):
    """Refuse a number of the two that none of so many questions has, then a sign of the two that is no answer."""
    check_question(q, questions)
    check_question(r, questions)
    check_sign(a)
    check_sign(b)


def check_untold(number, told):
    """Refuse a number that is told already."""
    if number in told:
        raise Twice()


def check_row(row, questions):
    """Refuse a text that is no row of so many questions."""
    if not is_row(row, questions):
        raise BadRow()


def check_pattern(pattern, questions):
    """Refuse a text that is no pattern of so many questions."""
    if not is_pattern(pattern, questions):
        raise BadPattern()


def other(sign):
    """The other answer."""
    check_sign(sign)
    return "n" if sign == "y" else "y"


def is_row(row, questions):
    """Whether a text is a row of so many questions."""
    check_count(questions)
    return len(row) == questions and only_of(row, SIGNS)


def is_pattern(pattern, questions):
    """Whether a text is a pattern of so many questions."""
    check_count(questions)
    return len(pattern) == questions and only_of(pattern, SIGNS + "-")


def only_of(text, signs):
    """Whether each sign of a text is one of these."""
    return all([sign in signs for sign in text])


def is_name(name):
    """Whether a text is a small letter and at most eleven small letters and figures."""
    if len(name) < 1 or len(name) > LONGEST_NAME:
        return False
    return is_letter(name[0]) and all([is_letter(sign) or is_figure(sign) for sign in name])


def is_letter(sign):
    """Whether a sign is a small letter from a to z."""
    return "a" <= sign <= "z"


def is_figure(sign):
    """Whether a sign is a figure from 0 to 9."""
    return "0" <= sign <= "9"


def go(one, two, three):
    """The row for which three rows go: at each question as two of the three do."""
    # There are but two answers: where the first and the second are unlike, the third is one of them and decides.
    return "".join([a if a == b else c for a, b, c in zip(one, two, three)])


def differ(one, other):
    """The rising questions that two rows answer unlike."""
    return [at for at in range(len(one)) if one[at] != other[at]]


def matches(row, pattern):
    """Whether a row has the pattern's answer wherever the pattern has one."""
    return all([mark == "-" or mark == sign for sign, mark in zip(row, pattern)])


def turned(row, questions):
    """The row that gives the other answer to each of these questions."""
    return "".join([other(sign) if at in questions else sign for at, sign in enumerate(row)])


def with_answer(pattern, question, sign):
    """The pattern that has this answer to a question, whatever it had there."""
    return pattern[:question] + sign + pattern[question + 1:]
