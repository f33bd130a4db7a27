"""A table of rows that knows how many of them give each two answers."""

from wapentake.errors import NoRow
from wapentake.rows import check_answers, check_count, check_row


class Table:
    """Rows of one number of questions, each as often as it was put in."""

    def __init__(self, questions):
        check_count(questions)
        self.questions = questions
        # How often each row is in; a row that is not in has no key.
        self.kept = {}
        # The counts are kept up with the rows, so that asking for one walks no rows.
        self.both = {}

    def add(self, row):
        """Put a row in."""
        check_row(row, self.questions)
        self.kept[row] = self.kept.get(row, 0) + 1
        self.tally(row, 1)

    def take(self, row):
        """Take a row out once."""
        check_row(row, self.questions)
        if row not in self.kept:
            raise NoRow()
        self.kept[row] -= 1
        if self.kept[row] == 0:
            del self.kept[row]
        self.tally(row, -1)

    def tally(self, row, by):
        """Raise the counts of each two answers of a row."""
        for q, a in enumerate(row):
            for r, b in enumerate(row):
                pair = (q, a, r, b)
                self.both[pair] = self.both.get(pair, 0) + by

    def many(self):
        """How many rows are in."""
        return sum(self.kept.values())

    def rows(self):
        """All rows, rising, each as often as it is in."""
        told = []
        for row in sorted(self.kept):
            told.extend([row] * self.kept[row])
        return told

    def count(self, q, a, r, b):
        """How many rows answer a to q and b to r."""
        check_answers(q, a, r, b, self.questions)
        return self.both.get((q, a, r, b), 0)

    def twin(self):
        """A table of its own with the same rows."""
        double = Table(self.questions)
        double.kept = dict(self.kept)
        double.both = dict(self.both)
        return double
