"""Walks of threes, by which rulings come about."""

from wapentake.asks import bearers
from wapentake.errors import BadWalk
from wapentake.fills import lacks
from wapentake.rows import go


def paper(assembly, row):
    """("walk", a walk that leads to a row) or ("nobody", q, r), a lack of the row."""
    missing = lacks(assembly.now.table, row)
    if missing:
        q, r = missing[0]
        return ("nobody", q, r)
    return ("walk", walk_for(assembly, row))


def leads_to(assembly, walk):
    """The row to which a walk leads."""
    rows = []
    for one, two, three in walk:
        rows.append(go(row_at(assembly, rows, one), row_at(assembly, rows, two), row_at(assembly, rows, three)))
    if not rows:
        raise BadWalk()
    return rows[-1]


def walk_for(assembly, row):
    """A walk that leads to a ruling."""
    # What stands here for a question goes as the row at that one and at all below k. Of such for k and for another one
    # and of somebody who answers these two as the row does, two go so at each of all these questions.
    reached = [bearers(assembly, row, 0, question)[0] for question in range(len(row))]
    walk = []
    for k in range(1, len(row) - 1):
        for question in range(k + 1, len(row)):
            walk.append((reached[question], reached[k], bearers(assembly, row, k, question)[0]))
            reached[question] = len(walk) - 1
    # Of one or two questions somebody answers all as the row does, and a walk still has a three.
    return walk or [(reached[-1], reached[-1], reached[-1])]


def row_at(assembly, rows, stand):
    """The row of a name, or that of a number among the rows of the threes so far."""
    if stand in assembly.now.people:
        return assembly.now.people[stand]
    if isinstance(stand, int) and 0 <= stand < len(rows):
        return rows[stand]
    raise BadWalk()
