"""Plain rules: a grammar's rules with ranks and sides told by symbols alone."""

from regrowth.errors import Barren, Idle
from regrowth.rules import check_rules, floor_of, ranks_of

TOP = ("", 0)
NO_RULE = -1


def plain_rules(rules):
    """The plain rules of the grammar, tuples (symbol, parts, rule), or a refusal."""
    check_rules(rules)
    parts = [symbols_of(rules, number) for number in range(len(rules))]
    first = rules[0][0]
    plain = [(TOP, ((first, ranks_of(rules, first)[0]),), NO_RULE)]
    for sort in sorts_of(rules):
        plain.extend(plain_of_sort(rules, parts, sort))
    check_fruitful(plain)
    check_reached(rules)
    return plain


def symbols_of(rules, number):
    """The parts of the rule as symbols, or NoFloor."""
    symbols = []
    for place, part in enumerate(rules[number][3]):
        floor = floor_of(rules, number, place)
        symbols.append(part if floor is None else (part, floor))
    return tuple(symbols)


def sorts_of(rules):
    """The sorts in the order of their first rules."""
    sorts = {}
    for rule in rules:
        sorts[rule[0]] = True
    return list(sorts)


def plain_of_sort(rules, parts, sort):
    plain = []
    ranks = ranks_of(rules, sort)
    for rank, above in zip(ranks, ranks[1:] + [None]):
        for number, rule in enumerate(rules):
            if rule[0] == sort and rule[1] == rank:
                plain.append(((sort, rank), parts[number], number))
        if above is not None:
            plain.append(((sort, rank), ((sort, above),), NO_RULE))
    return plain


def check_fruitful(plain):
    """None where from each symbol some row of words comes, or Barren."""
    fruitful = {}
    grown = True
    while grown:
        grown = False
        for symbol, parts, rule in plain:
            if symbol not in fruitful and all([isinstance(part, str) or part in fruitful for part in parts]):
                fruitful[symbol] = True
                grown = True
    for symbol, parts, rule in plain:
        if symbol not in fruitful:
            raise Barren(f"no row of words comes from {symbol!r}")


def check_reached(rules):
    """None where each sort is reached from the first rule's, or Idle."""
    reached = {}
    waiting = [rules[0][0]]
    while waiting:
        sort = waiting.pop()
        if sort not in reached:
            reached[sort] = True
            for rule in rules:
                if rule[0] == sort:
                    waiting.extend(rule[3])
    for rule in rules:
        if rule[0] not in reached:
            sort = rule[0]
            raise Idle(f"not reached: {sort!r}")
