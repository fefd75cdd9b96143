"""The words of a text that was changed, told again of the old text's words."""

from regrowth.changes import check_change
from regrowth.words import places_of, words_with


def words_again(book, ask, size, old, at, gone, come):
    """The words of the new text, or NoFit; signs are asked for only where an old word did not stay."""
    places = places_of(old)
    check_change(places[-1], size, at, gone, come)
    known = {}
    for word, place in zip(old, places):
        if place + word[3] <= at:
            known[place] = word
        elif place >= at + gone:
            known[place - gone + come] = word
    return words_with(book, ask, size, known)
