"""Reading a row again that was changed: old nodes that the change did not touch are taken whole."""

from regrowth.changes import check_change
from regrowth.nexts import END
from regrowth.plain import NO_RULE
from regrowth.reading import WORD_STEP, Reader


def read_again(tables, ask, many, old, at, gone, come):
    """The way of the new row, of the old row's way; or NoFit, or Stuck."""
    many_old = len([entry for entry in old if entry[0] == WORD_STEP])
    check_change(many_old, many, at, gone, come)
    nodes = untouched(old, at, gone, come)
    symbols = symbols_of_rules(tables[0])
    reader = Reader(tables)
    number = 0
    while number < many:
        kind = ask(number)
        reader.settle(kind, number)
        node = nodes.get(number)
        # In another state the same words may be put together otherwise.
        if node is not None and old[node[0]][2] == reader.topmost():
            top = old[node[1]]
            reader.take_whole(old[node[0]:node[1] + 1], symbols[top[0]])
            number += top[1]
        else:
            reader.take(kind, number)
            number += 1
    reader.settle(END, many)
    return reader.way


def untouched(old, at, gone, come):
    """For a word's new number the largest old node from it on that lies on one side of the change.

    It is told by two places in the old way: that of its first word, and its own.
    """
    nodes = {}
    begins = []
    for place, entry in enumerate(old):
        if entry[0] == WORD_STEP:
            begins.append(place)
        else:
            first = len(begins) - entry[1]
            # Of nodes that begin alike the inner ones come first, so the largest one stays.
            if first + entry[1] < at:
                nodes[first] = (begins[first], place)
            elif first >= at + gone:
                nodes[first - gone + come] = (begins[first], place)
    return nodes


def symbols_of_rules(plain):
    """The symbol on the left for each rule's number."""
    symbols = {}
    for symbol, parts, rule in plain:
        if rule != NO_RULE:
            symbols[rule] = symbol
    return symbols
