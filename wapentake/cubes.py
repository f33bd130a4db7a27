"""Bundles that can be turned in whatever choice."""

from wapentake.bonds import crossing, lowest_questions
from wapentake.errors import NoBundle
from wapentake.fills import meeting
from wapentake.rows import SIGNS, check_untold


def free_at(table, numbers):
    """("row", a ruling from which these bundles can be turned in whatever choice) or ("bar", k, l), two of the
    numbers whose bundles do not cross."""
    lowest = lowest_questions(table)
    check_numbers(numbers, len(lowest))
    crossed = crossing(table)
    for k, l in pairs(sorted(numbers)):
        if (k, l) not in crossed:
            return ("bar", k, l)
    # Where bundles cross, what each of them asks of the other questions can be had together, so the patterns meet.
    # A table without rows has no bundles: no number comes so far, and the meeting refuses it.
    return meeting(table, [leave_to_turn(table, lowest[number]) for number in numbers])


def check_numbers(numbers, many):
    """Refuse each number that none of so many bundles has, or that is told already."""
    for at, number in enumerate(numbers):
        if number < 0 or number >= many:
            raise NoBundle()
        check_untold(number, numbers[:at])


def pairs(numbers):
    """Each two of some numbers, in their order."""
    return [(k, l) for at, k in enumerate(numbers) for l in numbers[at + 1:]]


def leave_to_turn(table, lowest):
    """The pattern that those rulings match from which the bundle of this lowest question can be turned."""
    return "".join([answer_with_both(table, lowest, question) for question in range(table.questions)])


def answer_with_both(table, q, r):
    """The one answer to r that is given with both answers to q; "-" where there is no such or both are."""
    # Only where the two go together is there none: then r is turned along.
    told = [sign for sign in SIGNS if all([table.count(q, a, r, sign) > 0 for a in SIGNS])]
    return told[0] if len(told) == 1 else "-"
