"""How a table's rows bind its questions: bars, settled questions, bundles and which of them cross."""

from wapentake.rows import SIGNS


def bars(table):
    """All bars (q, a, r, b), by q, then r, then a, then b."""
    many = table.questions
    return [(q, a, r, b) for q in range(many) for r in range(q + 1, many) for a in SIGNS for b in SIGNS
            if table.count(q, a, r, b) == 0]


def settled(table):
    """All pairs (question, answer) of questions to which all rows give one answer, rising."""
    many = table.many()
    # Without rows each answer is given by all of them, none, and yet no question is settled.
    return [(question, sign) for question in range(table.questions) for sign in SIGNS
            if many > 0 and table.count(question, sign, question, sign) == many]


def bundles(table):
    """For each bundle its pairs (question, answer), rising, as the rows answer that say "y" to the lowest one."""
    told = []
    placed = {}
    for question in range(table.questions):
        if question not in placed and is_open(table, question):
            bundle = bundle_from(table, question)
            told.append(bundle)
            placed.update(dict(bundle))
    return told


def crossing(table):
    """All pairs of numbers of bundles that cross, the lower first, rising."""
    lowest = lowest_questions(table)
    return [(k, l) for k, q in enumerate(lowest) for l, r in enumerate(lowest) if k < l and cross(table, q, r)]


def lowest_questions(table):
    """The lowest question of each bundle, in the order of the bundles."""
    return [bundle[0][0] for bundle in bundles(table)]


def is_open(table, question):
    """Whether the rows give both answers to a question."""
    return all([table.count(question, sign, question, sign) > 0 for sign in SIGNS])


def bundle_from(table, lowest):
    """The bundle of a question that is the lowest one of it."""
    told = []
    for question in range(lowest, table.questions):
        answer = answer_along(table, lowest, question)
        if answer is not None:
            told.append((question, answer))
    return told


def answer_along(table, q, r):
    """What the rows that say "y" to q, an open question, answer to r where the two go together, else None."""
    # A settled r is given with both answers to q, so that neither test takes it for one that goes along.
    if table.count(q, "n", r, "y") == 0 and table.count(q, "y", r, "n") == 0:
        return "y"
    if table.count(q, "n", r, "n") == 0 and table.count(q, "y", r, "y") == 0:
        return "n"
    return None


def cross(table, q, r):
    """Whether the rows give all four pairs of answers to two questions."""
    return all([table.count(q, a, r, b) > 0 for a in SIGNS for b in SIGNS])
