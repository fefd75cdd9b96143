"""Rules: which lists of them are grammars, and the floors of their parts."""

from regrowth.errors import NoFloor, NoRule

MOST_RULES = 24
MOST_RANK = 99
MOST_PARTS = 8
SIDES = ("left", "right", "none")
NO_NAMES = ("", "end", "stray")


def check_rules(rules):
    """None where the rules are a grammar, or NoRule."""
    many = len(rules)
    if not 1 <= many <= MOST_RULES:
        raise NoRule(f"not 1 to {MOST_RULES} rules: {many}")
    for sort, rank, side, parts in rules:
        check_rule(sort, rank, side, parts)


def check_rule(sort, rank, side, parts):
    if not 0 <= rank <= MOST_RANK:
        raise NoRule(f"not a rank from 0 to {MOST_RANK}: {rank}")
    if side not in SIDES:
        raise NoRule(f"another side: {side!r}")
    if not 1 <= len(parts) <= MOST_PARTS:
        raise NoRule(f"not 1 to {MOST_PARTS} parts: {parts!r}")
    if sort in NO_NAMES or any([part in NO_NAMES for part in parts]):
        raise NoRule(f"a sort or a part that may not be: {sort!r}, {parts!r}")
    if parts == (sort,):
        raise NoRule(f"the own sort as the one part: {sort!r}")


def ranks_of(rules, sort):
    """The ranks of the sort's rules, rising, each once; none where it is no sort."""
    return sorted(set([rule[1] for rule in rules if rule[0] == sort]))


def floor_of(rules, number, place):
    """The least rank that stands at that part, None for the kind of a word, or NoFloor."""
    sort = rules[number][0]
    rank = rules[number][1]
    side = rules[number][2]
    parts = rules[number][3]
    ranks = ranks_of(rules, parts[place])
    if not ranks:
        return None
    if parts[place] == sort and place == 0:
        return rank if side == "left" else rank_above(ranks, rank)
    if parts[place] == sort and place == len(parts) - 1:
        return rank if side == "right" else rank_above(ranks, rank)
    return ranks[0]


def rank_above(ranks, rank):
    above = [other for other in ranks if other > rank]
    if not above:
        raise NoFloor(f"no rank above {rank}")
    return above[0]
