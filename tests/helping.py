"""What several tests need: functions to ask that keep what they were asked, and changes of rows."""

import random


def kept_ask(row):
    """A function that tells the things of the row, and the dict of the numbers that it was asked for."""
    asked = {}

    def ask(k):
        if isinstance(k, bool) or not isinstance(k, int) or not 0 <= k < len(row):
            raise AssertionError(f"asked for {k!r} of {len(row)} things")
        asked[k] = True
        return row[k]

    return ask, asked


def changed(row, at, gone, put):
    return row[:at] + put + row[at + gone:]


def each_change(row, puts):
    """Every change of the row by which one of `puts` comes: (at, gone, put, new row)."""
    for at in range(len(row) + 1):
        for gone in range(len(row) - at + 1):
            for put in puts:
                yield at, gone, put, changed(row, at, gone, put)


def some_changes(row, things, seed, many, longest):
    """A row of changes one behind another, always the same for the same seed: (at, gone, put, new row)."""
    chance = random.Random(seed)
    for _ in range(many):
        at = chance.randint(0, len(row))
        gone = chance.choice([0, 0, 1, 2, chance.randint(0, 6), len(row) - at])
        gone = min(gone, len(row) - at)
        come = chance.choice([0, 1, 1, 2, 3, chance.randint(0, 8)])
        come = min(come, max(0, longest - len(row) + gone))
        put = row[:0]
        for _ in range(come):
            put = put + thing_of(chance, things, row)
        row_new = changed(row, at, gone, put)
        yield at, gone, put, row_new
        row = row_new


def thing_of(chance, things, row):
    thing = chance.choice(things)
    return thing if isinstance(row, str) else [thing]


BIG = 10 ** 59


def unfit(many_old, many_new):
    """Changes (at, gone, come) that do not fit a row of so many things that became one of so many."""
    come = many_new - many_old
    fitting = (0, 0, come) if come >= 0 else (0, -come, 0)
    at, gone, come = fitting
    return [
        (-1, gone, come), (at, -1, come), (at, gone, -1),
        (-1, gone + 1, come + 1), (-BIG, gone, come), (at, -BIG, come), (at, gone, -BIG),
        (at, -1, come - 1), (at, gone - 1, -1),
        (many_old + 1, 0, many_new - many_old), (many_old, 1, many_new - many_old + 1),
        (0, many_old + 1, many_new + 1), (BIG, 0, many_new - many_old), (0, BIG, BIG),
        (at, gone, come + 1), (at, gone + 1, come), (at, gone, BIG), (BIG, BIG, BIG),
        (many_old + 1, -1, come), (BIG, -BIG, come),
    ]


def right_trees(rules, kinds):
    """All right trees for the row of kinds, as steps: told from points 18 and 21 alone."""
    sorts = {rule[0] for rule in rules}

    def least(rule, place):
        sort, rank, side, parts = rule
        ranks = sorted({other[1] for other in rules if other[0] == parts[place]})
        edge = {0: "left", len(parts) - 1: "right"}.get(place)
        if parts[place] != sort or edge is None:
            return ranks[0]
        return rank if side == edge else [other for other in ranks if other > rank][0]

    told = {}

    def nodes(sort, begin, end):
        """Pairs (rank, steps) for each node of the sort over the words from begin ahead of end."""
        key = (sort, begin, end)
        if key not in told:
            # Within itself a node stands over fewer words, or there would be trees without end.
            told[key] = []
            told[key] = [
                (rule[1], steps + (number,))
                for number, rule in enumerate(rules) if rule[0] == sort
                for steps in rows(rule, 0, begin, end)
            ]
        return told[key]

    def rows(rule, place, begin, end):
        """The steps of the parts from that place on, over these words."""
        parts = rule[3]
        if place == len(parts):
            return [()] if begin == end else []
        found = []
        for middle in range(begin + 1, end - (len(parts) - place - 1) + 1):
            if parts[place] in sorts:
                floor = least(rule, place)
                heads = [steps for rank, steps in nodes(parts[place], begin, middle) if rank >= floor]
            else:
                heads = [(-1,)] if middle == begin + 1 and kinds[begin] == parts[place] else []
            if heads:
                tails = rows(rule, place + 1, middle, end)
                found += [head + tail for head in heads for tail in tails]
        return found

    return [list(steps) for rank, steps in nodes(rules[0][0], 0, len(kinds))]


# Grammars that are good, for tests of what holds for each.
SUM = [
    ("e", 1, "left", ("e", "plus", "e")), ("e", 2, "left", ("e", "times", "e")),
    ("e", 3, "none", ("minus", "e")), ("e", 4, "right", ("e", "hat", "e")),
    ("e", 5, "none", ("n",)), ("e", 5, "none", ("l", "e", "r")),
]
LISTS = [
    ("s", 0, "none", ("l", "row", "r")), ("s", 0, "none", ("l", "r")), ("s", 0, "none", ("n",)),
    ("row", 0, "left", ("row", "c", "s")), ("row", 0, "none", ("s",)),
]
CHAIN = [
    ("s", 3, "none", ("let", "n", "is", "e")), ("s", 3, "none", ("e",)),
    ("e", 0, "none", ("not", "e")), ("e", 1, "none", ("f", "eq", "f")), ("e", 2, "none", ("f",)),
    ("f", 0, "right", ("g", "hat", "f")), ("f", 9, "none", ("g",)), ("g", 0, "none", ("n",)),
    ("g", 0, "none", ("l", "e", "r")),
]
MIDST = [
    ("e", 0, "none", ("if", "e", "then", "e", "else", "e")), ("e", 1, "left", ("e", "plus", "e")),
    ("e", 2, "none", ("n",)),
]
TAIL = [("t", 0, "right", ("n", "t")), ("t", 1, "none", ("n", "x"))]
GOOD_GRAMMARS = {"sum": SUM, "lists": LISTS, "chain": CHAIN, "midst": MIDST, "tail": TAIL}


def kinds_of(rules):
    """The kinds of words in the rules, sorted."""
    sorts = {rule[0] for rule in rules}
    return sorted({part for rule in rules for part in rule[3] if part not in sorts})


def chance_grammar(seed):
    """A short list of rules, always the same for the same seed; many are refused."""
    chance = random.Random(seed)
    sorts = ["s", "t", "u"][:chance.randint(1, 3)]
    names = sorts + ["a", "b", "c", "d"]
    rules = []
    for number in range(chance.randint(2, 6)):
        sort = "s" if number == 0 else chance.choice(sorts)
        parts = tuple(chance.choice(names) for _ in range(chance.choice([1, 1, 2, 2, 3, 3, 4])))
        rules.append((sort, chance.randint(0, 2), chance.choice(["left", "right", "none"]), parts))
    return rules


def goes_on(plain, kinds):
    """How many of the kinds can be taken, one behind another, so that some row that has a right tree goes on so;
    and whether the row of all of them has one. By sets of items with the place where each began, without tables."""

    def with_all_brought(items, place, sets):
        waiting = list(items)
        found = set()
        while waiting:
            item = waiting.pop()
            if item in found:
                continue
            found.add(item)
            p, stood, begin = item
            symbol, parts, rule = plain[p]
            if stood < len(parts):
                waiting += [(q, 0, place) for q, other in enumerate(plain) if other[0] == parts[stood]]
            else:
                # No rule is without parts, so what it stands behind lies in an earlier set.
                waiting += [
                    (q, there + 1, other) for q, there, other in sets[begin]
                    if there < len(plain[q][1]) and plain[q][1][there] == symbol
                ]
        return found

    sets = [with_all_brought([(0, 0, 0)], 0, [])]
    for place, kind in enumerate(kinds):
        moved = [
            (p, stood + 1, begin) for p, stood, begin in sets[-1]
            if stood < len(plain[p][1]) and plain[p][1][stood] == kind
        ]
        if not moved:
            return place, False
        sets.append(with_all_brought(moved, place + 1, sets))
    return len(kinds), (0, 1, 0) in sets[-1]


def good_chance_grammars(seeds, good):
    """Those of the grammars of these seeds that are good; `good` tells the tables of one, or is refused."""
    told = []
    for seed in seeds:
        rules = chance_grammar(seed)
        try:
            told.append((rules, good(rules)))
        except ValueError:
            continue
    return told
