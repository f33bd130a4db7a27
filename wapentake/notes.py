"""Deeds and assemblies written as texts and read again."""

from wapentake.asks import deeds
from wapentake.assembly import Assembly
from wapentake.errors import BadText
from wapentake.rows import is_figure, is_name

MOST_FIGURES = 9
# Of what kind the words behind each deed's first one are.
DEED_FORMS = {
    "come": ("name", "name"),
    "leave": ("name",),
    "turn": ("name", "number", "name"),
    "swear": ("name", "number", "name", "number", "name"),
    "recant": ("name", "number"),
    "enter": ("name",),
    "strike": ("number",),
}


def deed_text(deed):
    """The text of a deed."""
    return spaced(deed)


def read_deed(text):
    """The deed that has a text."""
    words = text.split(" ")
    return read_words(words, DEED_FORMS.get(words[0]))


def written(assembly):
    """The text of an assembly."""
    return "\n".join([f"assembly {assembly.questions}"] + [deed_text(deed) for deed in deeds(assembly)])


def read(text):
    """An assembly that has done the deeds of a text."""
    lines = text.split("\n")
    questions = read_head(lines[0])
    listed = [read_deed(line) for line in lines[1:]]
    told = Assembly(questions)
    for deed in listed:
        carry_out(told, deed)
    return told


def spaced(parts):
    """Texts and numbers with one blank between."""
    return " ".join([str(part) for part in parts])


def carry_out(assembly, deed):
    """Let an assembly do a deed; what the deed tells."""
    word = deed[0]
    if word == "come":
        return assembly.come(deed[1], deed[2])
    if word == "leave":
        return assembly.leave(deed[1])
    if word == "turn":
        return assembly.turn(deed[1], deed[2], deed[3])
    if word == "swear":
        return assembly.swear(deed[1], deed[2], deed[3], deed[4], deed[5])
    if word == "recant":
        return assembly.recant(deed[1], deed[2])
    if word == "enter":
        return assembly.enter(deed[1])
    return assembly.strike(deed[1])


def read_head(line):
    """The number of questions in the first line of an assembly's text."""
    words = line.split(" ")
    if words[0] != "assembly":
        raise BadText()
    return read_words(words, ("number",))[1]


def read_words(words, kinds):
    """The tuple of a first word and of what the others mean, which are to be of these kinds, in this order."""
    if kinds is None or len(words) != len(kinds) + 1:
        raise BadText()
    return tuple(words[:1] + [read_word(word, kind) for word, kind in zip(words[1:], kinds)])


def read_word(word, kind):
    """The number or the text that a word of a kind means."""
    if kind == "number" and is_number(word):
        return int(word)
    if kind == "name" and is_name(word):
        return word
    raise BadText()


def is_number(word):
    """Whether a word has one to nine figures, without a nought ahead but for 0 itself."""
    if len(word) < 1 or len(word) > MOST_FIGURES:
        return False
    return all([is_figure(sign) for sign in word]) and (word[0] != "0" or word == "0")
