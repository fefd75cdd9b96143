"""States: what of the plain rules can have stood, numbered as it is met."""

from regrowth.errors import TooLarge

MOST_STATES = 150


def states_of(plain):
    """The states, and for each a dict of the states behind its symbols; or TooLarge."""
    states = [closed(plain, [(0, 0)])]
    numbers = {tuple(states[0]): 0}
    behind = []
    while len(behind) < len(states):
        told = {}
        moves = behind_state(plain, states[len(behind)])
        for symbol, state in moves:
            if tuple(state) not in numbers:
                numbers[tuple(state)] = len(states)
                states.append(state)
            told[symbol] = numbers[tuple(state)]
        if len(states) > MOST_STATES:
            raise TooLarge(f"more than {MOST_STATES} states")
        behind.append(told)
    return (states, behind)


def behind_state(plain, state):
    """The symbols that are next in the state, as its items bring them, each with the state behind it."""
    moved = {}
    for item in state:
        symbol = symbol_next(plain, item)
        if symbol is not None:
            moved.setdefault(symbol, []).append((item[0], item[1] + 1))
    return [(symbol, closed(plain, moved[symbol])) for symbol in moved]


def closed(plain, items):
    """The state of the items and of what they bring."""
    held = {}
    waiting = list(items)
    while waiting:
        item = waiting.pop()
        if item not in held:
            held[item] = True
            symbol = symbol_next(plain, item)
            waiting.extend([(number, 0) for number, rule in enumerate(plain) if rule[0] == symbol])
    return sorted(held)


def symbol_next(plain, item):
    """The symbol that is the item's next part, or None where all have stood."""
    parts = plain[item[0]][1]
    return parts[item[1]] if item[1] < len(parts) else None
