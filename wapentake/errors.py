"""The refusals: one class for each, all straight under one base."""


class WapentakeError(ValueError):
    """Any refusal; its word is what a desk answers."""

    def __init__(self, word):
        ValueError.__init__(self, word)
        self.word = word


class BadCount(WapentakeError):
    """There are not 1 to 12 questions."""

    def __init__(self):
        WapentakeError.__init__(self, "bad count")


class NoQuestion(WapentakeError):
    """No question has the number."""

    def __init__(self):
        WapentakeError.__init__(self, "no question")


class BadSign(WapentakeError):
    """The sign is no answer."""

    def __init__(self):
        WapentakeError.__init__(self, "bad sign")


class BadRow(WapentakeError):
    """The text is no row of so many questions."""

    def __init__(self):
        WapentakeError.__init__(self, "bad row")


class BadPattern(WapentakeError):
    """The text is no pattern of so many questions."""

    def __init__(self):
        WapentakeError.__init__(self, "bad pattern")


class NoRow(WapentakeError):
    """The row is not in the table."""

    def __init__(self):
        WapentakeError.__init__(self, "no row")


class NotBorne(WapentakeError):
    """The row is no ruling."""

    def __init__(self):
        WapentakeError.__init__(self, "not borne")


class Empty(WapentakeError):
    """There are no rows in the table."""

    def __init__(self):
        WapentakeError.__init__(self, "empty")


class Unmatched(WapentakeError):
    """No ruling matches the pattern."""

    def __init__(self):
        WapentakeError.__init__(self, "unmatched")


class NoBundle(WapentakeError):
    """No bundle has the number."""

    def __init__(self):
        WapentakeError.__init__(self, "no bundle")


class Twice(WapentakeError):
    """The number is told already."""

    def __init__(self):
        WapentakeError.__init__(self, "told twice")


class BadWeight(WapentakeError):
    """The weight is below 1."""

    def __init__(self):
        WapentakeError.__init__(self, "bad weight")


class Even(WapentakeError):
    """The sum of the weights is even."""

    def __init__(self):
        WapentakeError.__init__(self, "even")


class Torn(WapentakeError):
    """No row keeps all of the oaths."""

    def __init__(self):
        WapentakeError.__init__(self, "torn")


class BadName(WapentakeError):
    """The text is no name."""

    def __init__(self):
        WapentakeError.__init__(self, "bad name")


class Taken(WapentakeError):
    """Somebody there has the name."""

    def __init__(self):
        WapentakeError.__init__(self, "taken")


class Broken(WapentakeError):
    """An oath would not be kept."""

    def __init__(self):
        WapentakeError.__init__(self, "broken")


class NoPerson(WapentakeError):
    """Nobody there has the name."""

    def __init__(self):
        WapentakeError.__init__(self, "no person")


class Same(WapentakeError):
    """The answer is so already."""

    def __init__(self):
        WapentakeError.__init__(self, "the same")


class Sworn(WapentakeError):
    """This one has sworn the oath already."""

    def __init__(self):
        WapentakeError.__init__(self, "sworn")


class NoOath(WapentakeError):
    """No standing oath has the number."""

    def __init__(self):
        WapentakeError.__init__(self, "no oath")


class NotSworn(WapentakeError):
    """This one has not sworn the oath."""

    def __init__(self):
        WapentakeError.__init__(self, "not sworn")


class Entered(WapentakeError):
    """A standing entry has the row."""

    def __init__(self):
        WapentakeError.__init__(self, "entered")


class NoEntry(WapentakeError):
    """No entry has the number."""

    def __init__(self):
        WapentakeError.__init__(self, "no entry")


class NotStanding(WapentakeError):
    """The entry stands no longer."""

    def __init__(self):
        WapentakeError.__init__(self, "not standing")


class BadWalk(WapentakeError):
    """The threes make no walk."""

    def __init__(self):
        WapentakeError.__init__(self, "bad walk")


class Borne(WapentakeError):
    """The wanted row is a ruling."""

    def __init__(self):
        WapentakeError.__init__(self, "borne")


class NothingLeft(WapentakeError):
    """There is no deed to undo or to redo."""

    def __init__(self):
        WapentakeError.__init__(self, "nothing left")


class BadText(WapentakeError):
    """The text has none of the forms that are read."""

    def __init__(self):
        WapentakeError.__init__(self, "bad text")
