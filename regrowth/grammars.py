"""Grammars as texts: how the rows of one are read."""

from regrowth.errors import NoRow
from regrowth.forms import form_of
from regrowth.rules import SIDES
from regrowth.words import GAP

MOST_FORMS = 24
MOST_ENDS = 24
MOST_LETTERS = 12
DEEDS = ("stop", "open", "close")
NO_KINDS = ("end", "stray")


def grammar_of(text):
    """The book, the rules, the ends and the notes that the text tells; or NoRow, or NoForm."""
    book = []
    rules = []
    ends = []
    notes = []
    for row in text.split("\n"):
        words = row.split(" ")
        if row == "":
            continue
        if "" in words:
            raise NoRow(f"a blank too many: {row!r}")
        if words[0] == "gap":
            put_form(book, GAP, words[1:])
        elif words[0] == "word":
            put_form(book, kind_at(words, 1), words[2:])
        elif words[0] in DEEDS:
            put_end(ends, words)
        elif words[0] == "rule":
            rules.append(rule_of(words))
            notes.append(note_of(words[4:]))
        else:
            raise NoRow(f"another row: {row!r}")
    check_notes(rules, notes)
    return (book, rules, ends, notes)


def kind_at(words, place):
    """The word of that number, which must be a kind or a sort; or NoRow."""
    word = words[place] if place < len(words) else ""
    if not is_kind(word):
        raise NoRow(f"no kind and no sort: {word!r}")
    return word


def is_kind(word):
    return 1 <= len(word) <= MOST_LETTERS and all(["a" <= sign <= "z" for sign in word]) and word not in NO_KINDS


def put_form(book, kind, words):
    if not words:
        raise NoRow("a row without a form")
    if len(book) == MOST_FORMS:
        raise NoRow(f"more than {MOST_FORMS} forms")
    book.append((kind, form_of(" ".join(words))))


def put_end(ends, words):
    kind = kind_at(words, 1)
    if len(words) > 2:
        raise NoRow(f"more than an end: {words!r}")
    if any([end[0] == kind for end in ends]):
        raise NoRow(f"an end that was told: {kind!r}")
    if len(ends) == MOST_ENDS:
        raise NoRow(f"more than {MOST_ENDS} ends")
    ends.append((kind, words[0]))


def rule_of(words):
    """The rule that the words of a row tell; or NoRow."""
    if len(words) < 4:
        raise NoRow(f"too few words for a rule: {words!r}")
    sort = kind_at(words, 1)
    if not is_rank(words[2]):
        raise NoRow(f"no rank: {words!r}")
    if words[3] not in SIDES:
        raise NoRow(f"another side: {words!r}")
    parts = [bare_part(word) for word in words[4:]]
    return (sort, int(words[2]), words[3], tuple([kind_at(parts, place) for place in range(len(parts))]))


def is_rank(word):
    if not all(["0" <= sign <= "9" for sign in word]):
        return False
    return len(word) == 1 or len(word) == 2 and word[0] != "0"


def bare_part(word):
    """The part without the sign ahead of it, where there is one."""
    return word[1:] if word[:1] in ("?", "!") else word


def note_of(words):
    """The numbers of the parts that are asked for and bound, -1 for none; or NoRow."""
    return (place_signed(words, "?"), place_signed(words, "!"))


def place_signed(words, sign):
    places = [place for place, word in enumerate(words) if word[:1] == sign]
    if len(places) > 1:
        raise NoRow(f"the sign {sign} more than once: {words!r}")
    return places[0] if places else -1


def check_notes(rules, notes):
    """None where each part that is asked for or bound is a word, or NoRow."""
    sorts = [rule[0] for rule in rules]
    for rule, note in zip(rules, notes):
        for place in note:
            if place >= 0 and rule[3][place] in sorts:
                sort = rule[3][place]
                raise NoRow(f"a sort that is asked for or bound: {sort!r}")
