"""Steps: which of them tell a right tree for a row of words."""

from regrowth.rules import floor_of

# The rank of a word among things that are put together; no node has it, so no word is taken for one.
WORD_RANK = -1


def is_right(rules, steps, kinds):
    """Whether the steps tell a right tree for the row of kinds."""
    floors = [floors_of(rules, number) for number in range(len(rules))]
    things = []
    taken = 0
    for step in steps:
        if step == -1:
            if taken == len(kinds):
                return False
            things.append((kinds[taken], WORD_RANK))
            taken += 1
        elif not 0 <= step < len(rules):
            return False
        elif not fits(rules[step][3], floors[step], things):
            return False
        else:
            for part in rules[step][3]:
                things.pop()
            things.append((rules[step][0], rules[step][1]))
    return taken == len(kinds) and len(things) == 1 and is_node(things[0], rules[0][0])


def floors_of(rules, number):
    return [floor_of(rules, number, place) for place in range(len(rules[number][3]))]


def is_node(thing, sort):
    return thing[0] == sort and thing[1] != WORD_RANK


def fits(parts, floors, things):
    """Whether the last things, as many as there are parts, are what the parts tell."""
    if len(things) < len(parts):
        return False
    last = things[len(things) - len(parts):]
    return all([fits_part(part, floor, thing) for part, floor, thing in zip(parts, floors, last)])


def fits_part(part, floor, thing):
    if floor is None:
        return thing == (part, WORD_RANK)
    return is_node(thing, part) and thing[1] >= floor
