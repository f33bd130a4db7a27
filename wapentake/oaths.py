"""Oaths, which lead from one answer to another: who keeps them, which are torn and what follows from them."""

from wapentake.errors import Torn
from wapentake.fills import answers, open_places
from wapentake.rows import check_answers, check_count, check_pattern, other, with_answer


def keeps(row, oaths):
    """Whether a row keeps all oaths."""
    return all([row[q] != a or row[r] == b for q, a, r, b in oaths])


def torn(questions, oaths):
    """A walk that shows that oaths are torn, from an answer over the other one and back again; None if they are not."""
    check_oaths(questions, oaths)
    return torn_walk(questions, links(oaths))


def keeping(questions, oaths, pattern):
    """A row that keeps all oaths and matches a pattern, or None."""
    check_oaths(questions, oaths)
    check_pattern(pattern, questions)
    led = links(oaths)
    told = hold_all(led, questions, answers(pattern))
    if told is None:
        return None
    for question in open_places(told):
        if told[question] == "-":
            # What is held leads to nothing open: so an answer that clashes, clashes with what it leads to itself, and
            # where both do, the oaths are torn.
            told = hold(led, told, (question, "n")) or hold(led, told, (question, "y"))
        if told is None:
            return None
    return told


def follows(questions, oaths, q, a, r, b):
    """("walk", a walk that shows that b to r follows from a to q) or ("row", a row that shows that it does not)."""
    check_oaths(questions, oaths)
    check_answers(q, a, r, b, questions)
    led = links(oaths)
    if torn_walk(questions, led) is not None:
        raise Torn()
    one, two = (q, a), (r, b)
    for start, goal in ((one, two), (one, against(one)), (against(two), two)):
        walk = walk_to(led, start, goal)
        if walk is not None:
            return ("walk", walk)
    pattern = with_answer(with_answer("-" * questions, q, a), r, other(b))
    return ("row", keeping(questions, oaths, pattern))


def check_oaths(questions, oaths):
    """Refuse a number of questions that is out of bounds, then each oath that is not of so many questions."""
    check_count(questions)
    for q, a, r, b in oaths:
        check_answers(q, a, r, b, questions)


def against(answer):
    """The other answer to a question."""
    question, sign = answer
    return (question, other(sign))


def other_side(oath):
    """The form in which the same oath leads from the other answer at its end to the other answer at its beginning."""
    q, a, r, b = oath
    return (r, other(b), q, other(a))


def links(oaths):
    """For each answer from which oaths lead, the answers that they lead to."""
    told = {}
    for oath in oaths:
        for q, a, r, b in (oath, other_side(oath)):
            told[(q, a)] = told.get((q, a), []) + [(r, b)]
    return told


def walks_from(led, start):
    """For each answer that one leads to, itself and over whatever many others too, a walk from the one to it."""
    told = {start: [start]}
    fresh = [start]
    while fresh:
        answer = fresh.pop()
        for beyond in led.get(answer, []):
            if beyond not in told:
                told[beyond] = told[answer] + [beyond]
                fresh.append(beyond)
    return told


def walk_to(led, start, goal):
    """A walk from one answer to another, or None."""
    return walks_from(led, start).get(goal)


def torn_walk(questions, led):
    """A walk from an answer over the other one and back again, or None."""
    for question in range(questions):
        there = walk_to(led, (question, "n"), (question, "y"))
        back = walk_to(led, (question, "y"), (question, "n"))
        if there is not None and back is not None:
            return there + back[1:]
    return None


def hold(led, pattern, answer):
    """The pattern with an answer and all that it leads to, or None where it clashes with one of these."""
    told = pattern
    for question, sign in walks_from(led, answer):
        if told[question] == other(sign):
            return None
        told = with_answer(told, question, sign)
    return told


def hold_all(led, questions, given):
    """The pattern of some answers and all that they lead to, or None where two of these clash."""
    told = "-" * questions
    for answer in given:
        told = hold(led, told, answer)
        if told is None:
            return None
    return told
