"""The forms of texts that points [26] to [28] tell, and texts that are spoilt at each place."""

import re

NAME = "[a-z][a-z0-9]{0,11}"
NUMBER = "(?:0|[1-9][0-9]{0,8})"
DEED_FORMS = ("come NAME NAME", "leave NAME", "turn NAME NUMBER NAME", "swear NAME NUMBER NAME NUMBER NAME",
              "recant NAME NUMBER", "enter NAME", "strike NUMBER")
DESK_FORMS = DEED_FORMS + ("undo", "redo", "ruling NAME", "steps NAME NAME", "voice", "standing",
                           "follows NUMBER NAME NUMBER NAME")
# A blank, a line end, a great letter, a figure, a stroke, a nought, and others that no word has.
SPOILING = (" ", "\n", "A", "Y", "7", "-", "0", "a", "y", "~", "_", ".", "+", "")


def has_form(text, forms):
    return any(re.fullmatch(form.replace("NAME", NAME).replace("NUMBER", NUMBER), text) for form in forms)


def is_deed_text(text):
    return has_form(text, DEED_FORMS)


def is_desk_text(text):
    return has_form(text, DESK_FORMS)


def spoilt(text):
    """A text with another sign at each place, and with one more there."""
    told = []
    for at in range(len(text) + 1):
        for sign in SPOILING:
            told += [text[:at] + sign + text[at:], text[:at] + sign + text[at + 1:]]
    return told
