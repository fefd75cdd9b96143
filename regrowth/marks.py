"""What marks rest on: which new words are old ones, and over which words nodes stand."""

from regrowth.reading import WORD_STEP
from regrowth.words import places_of, size_of


def carried(old, new, at, gone, come):
    """For each new word the number of the old word that it is, or -1."""
    lies = {}
    for number, place in enumerate(places_of(old)[:-1]):
        if place >= at + gone:
            lies[place - gone + come] = number
        elif place + size_of(old[number]) <= at:
            lies[place] = number
    told = []
    for word, place in zip(new, places_of(new)):
        number = lies.get(place, -1)
        # How far a word looked is no matter: kind, gap and length make it the same.
        same = number >= 0 and old[number][:3] == word[:3]
        told.append(number if same else -1)
    return told


def knitted(plain, way):
    """The nodes of the way, tuples (rule, parts, begin, words)."""
    sizes = {}
    for symbol, parts, rule in plain:
        sizes[rule] = len(parts)
    nodes = []
    loose = []
    taken = 0
    for step, words, state in way:
        if step == WORD_STEP:
            loose.append(("word", taken))
            taken += 1
        else:
            first = len(loose) - sizes[step]
            nodes.append((step, loose[first:], taken - words, words))
            loose = loose[:first] + [("node", len(nodes) - 1)]
    return nodes
