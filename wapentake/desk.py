"""A desk that is told rows of words and answers them."""

from wapentake.assembly import Assembly
from wapentake.crowds import common
from wapentake.errors import WapentakeError
from wapentake.fills import lacks
from wapentake.notes import carry_out, deed_text, read_deed, read_words, spaced
from wapentake.oaths import follows
from wapentake.states import standing_oaths
from wapentake.ways import steps

# Of what kind the words are behind the first one of each row that is no deed's text.
DESK_FORMS = {
    "undo": (),
    "redo": (),
    "ruling": ("name",),
    "steps": ("name", "name"),
    "voice": (),
    "standing": (),
    "follows": ("number", "name", "number", "name"),
}


class Desk:
    """A desk and its assembly."""

    def __init__(self, questions):
        self.assembly = Assembly(questions)

    def say(self, row):
        """The answer to a row of words."""
        try:
            return answer(self.assembly, row)
        except WapentakeError as refusal:
            return f"no: {refusal.word}"


def answer(assembly, row):
    """The answer to a row of words that is not refused."""
    words = row.split(" ")
    if words[0] in DESK_FORMS:
        return answer_ask(assembly, read_words(words, DESK_FORMS[words[0]]))
    return answer_deed(assembly, read_deed(row))


def answer_deed(assembly, deed):
    """Do a deed; what is answered for it."""
    told = carry_out(assembly, deed)
    if deed[0] == "swear":
        return f"oath {told}"
    if deed[0] == "enter":
        return f"entry {told}"
    # Only a leaving or a turning tells numbers here, and only where entries fell.
    return f"fell {spaced(told)}" if told else "done"


def answer_ask(assembly, ask):
    """What is answered for an undoing, a redoing or something asked."""
    word = ask[0]
    if word == "undo":
        return f"undone {deed_text(assembly.undo())}"
    if word == "redo":
        return f"redone {deed_text(assembly.redo())}"
    if word == "ruling":
        return answer_ruling(assembly, ask[1])
    if word == "steps":
        return str(steps(assembly.now.table, ask[1], ask[2]))
    if word == "voice":
        return common(assembly.now.table)
    if word == "standing":
        numbers = [number for number, row, how, lack in assembly.now.entries if how == "standing"]
        return spaced(numbers) if numbers else "-"
    kind, shown = follows(assembly.questions, standing_oaths(assembly.now), ask[1], ask[2], ask[3], ask[4])
    return "yes" if kind == "walk" else "no"


def answer_ruling(assembly, row):
    """Whether a row is a ruling, and its lowest lack where it is none."""
    missing = lacks(assembly.now.table, row)
    return f"no {spaced(missing[0])}" if missing else "yes"
