"""First kinds and next kinds of the symbols of plain rules."""

from regrowth.plain import TOP

END = "end"


def first_kinds(plain):
    """For each symbol on the left the sorted kinds of words with which a row of it begins."""
    firsts = none_yet(plain)
    grown = True
    while grown:
        grown = False
        for symbol, parts, rule in plain:
            # No rule is without parts, so nothing but the first one tells how a row begins.
            grown = put_in(firsts[symbol], firsts_of(firsts, parts[0])) or grown
    return sorted_lists(firsts)


def next_kinds(plain):
    """For each symbol on the left the sorted kinds that can stand right behind it."""
    firsts = first_kinds(plain)
    nexts = none_yet(plain)
    nexts[TOP][END] = True
    grown = True
    while grown:
        grown = False
        for symbol, parts, rule in plain:
            for place, part in enumerate(parts):
                if part in nexts:
                    last = place == len(parts) - 1
                    behind = list(nexts[symbol]) if last else firsts_of(firsts, parts[place + 1])
                    grown = put_in(nexts[part], behind) or grown
    return sorted_lists(nexts)


def none_yet(plain):
    """A dict with a dict of its own, that holds no kind yet, for each symbol on the left."""
    kinds = {}
    for symbol, parts, rule in plain:
        kinds[symbol] = {}
    return kinds


def firsts_of(firsts, part):
    return list(firsts[part]) if part in firsts else [part]


def put_in(kinds, more):
    """Puts more kinds in; tells whether one of them was not there."""
    before = len(kinds)
    for kind in more:
        kinds[kind] = True
    return len(kinds) > before


def sorted_lists(kinds):
    told = {}
    for symbol in kinds:
        told[symbol] = sorted(kinds[symbol])
    return told
