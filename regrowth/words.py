"""Words: how a text is cut into them."""

from regrowth.taking import taken_by

GAP = ""
END = "end"
STRAY = "stray"


def word_at(book, ask, size, at):
    """The word from the place on: (kind, gap, long, looked)."""
    gaps = [entry for entry in book if entry[0] == GAP]
    others = [entry for entry in book if entry[0] != GAP]
    gap = 0
    best = best_of(gaps, ask, size, at)
    looked = best[2]
    while best[1] > 0:
        gap += best[1]
        best = best_of(gaps, ask, size, at + gap)
        looked = max(looked, gap + best[2])
    if at + gap == size:
        return (END, gap, 0, looked)
    best = best_of(others, ask, size, at + gap)
    looked = max(looked, gap + best[2])
    if best[1] == 0:
        return (STRAY, gap, 1, looked)
    return (best[0], gap, best[1], looked)


def best_of(entries, ask, size, place):
    """The kind of the form that takes most signs, how many it takes, how many places any form looked at."""
    kind = GAP
    most = 0
    # The place itself is looked at even where there is no form that looks.
    looked = 1
    for entry_kind, form in entries:
        told = taken_by(form, ask, size, place)
        looked = max(looked, told[1])
        if told[0] > most:
            kind = entry_kind
            most = told[0]
    return (kind, most, looked)


def words_of(book, ask, size):
    """The words of the text, up to the one of kind end."""
    return words_with(book, ask, size, {})


def words_with(book, ask, size, known):
    """The words of the text; at a place that is known the word told there is taken, and nothing is asked."""
    words = []
    place = 0
    ended = False
    while not ended:
        word = known.get(place)
        if word is None:
            word = word_at(book, ask, size, place)
        words.append(word)
        place += size_of(word)
        ended = word[0] == END
    return words


def size_of(word):
    return word[1] + word[2]


def places_of(words):
    """The place of each word, and behind them the place where the text ends."""
    places = [0]
    for word in words:
        places.append(places[-1] + size_of(word))
    return places
