"""Forms of signs as texts: how a form is read, and how it is written."""

from regrowth.errors import NoForm

MOST_PARTS = 12
MOST_SIGNS = 100
# No text of the package may hold the percent sign itself, so it is known by its number.
PERCENT = 37

DEEDS = {"@": "in", "^": "out", "=": "row"}
MANIES = {".": "once", "?": "maybe", "+": "some", "*": "any", ">": "ahead", "-": "not"}
ROW_MANIES = ("once", "ahead", "not")
MEANT = {
    "b": " ",
    "n": "\n",
    "t": "~",
    "a": "abcdefghijklmnopqrstuvwxyz",
    "A": "ABCDEFGHIJKLMNOPQRSTUVWXYZ",
    "0": "0123456789",
}

DEED_SIGNS = {"in": "@", "out": "^", "row": "="}
MANY_SIGNS = {"once": ".", "maybe": "?", "some": "+", "any": "*", "ahead": ">", "not": "-"}
WRITTEN = {" ": "~b", "\n": "~n", "~": "~t"}


def form_of(text):
    """The form that the text writes, or NoForm."""
    for sign in text:
        if not may_write(sign):
            raise NoForm(f"a sign that writes no form: {sign!r}")
    parts = text.split(" ")
    if len(parts) > MOST_PARTS:
        raise NoForm(f"more than {MOST_PARTS} parts")
    return [part_of(part) for part in parts]


def form_text(form):
    """The text that writes the form."""
    return " ".join([part_text(deed, signs, many) for deed, signs, many in form])


def may_write(sign):
    return " " <= sign <= "~" and ord(sign) != PERCENT


def part_of(text):
    deed = DEEDS.get(text[:1])
    many = MANIES.get(text[1:2])
    if deed is None or many is None:
        raise NoForm(f"a part without its two first signs: {text!r}")
    if deed == "row" and many not in ROW_MANIES:
        raise NoForm(f"a row of another many: {text!r}")
    signs = signs_of(text[2:])
    if not 1 <= len(signs) <= MOST_SIGNS:
        raise NoForm(f"no signs, or more than {MOST_SIGNS}: {text!r}")
    return (deed, signs, many)


def signs_of(text):
    pieces = text.split("~")
    signs = pieces[0]
    # Each later piece had a `~` ahead of it, so its first sign is not meant as it is.
    for piece in pieces[1:]:
        meant = MEANT.get(piece[:1])
        if meant is None:
            raise NoForm(f"another sign, or none, behind the sign ~: {text!r}")
        signs += meant + piece[1:]
    return signs


def part_text(deed, signs, many):
    written = "".join([WRITTEN.get(sign, sign) for sign in signs])
    return DEED_SIGNS[deed] + MANY_SIGNS[many] + written
