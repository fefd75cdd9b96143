"""Tables: which deed is due in a state for a kind."""

from regrowth.errors import Clash
from regrowth.nexts import END, next_kinds
from regrowth.plain import plain_rules
from regrowth.states import states_of, symbol_next


def tables_of(rules):
    """The plain rules, the states behind the symbols and the deeds of each state; or a refusal."""
    plain = plain_rules(rules)
    told = states_of(plain)
    nexts = next_kinds(plain)
    deeds = []
    for state, behind in zip(told[0], told[1]):
        deeds.append(deeds_in(len(deeds), due_in(plain, nexts, state, behind)))
    return (plain, told[1], deeds)


def due_in(plain, nexts, state, behind):
    """All deeds that the state's items make due: tuples (kind, deed)."""
    due = []
    for item in state:
        symbol = symbol_next(plain, item)
        if isinstance(symbol, str):
            due.append((symbol, ("shift", behind[symbol])))
        elif symbol is None and item[0] == 0:
            due.append((END, ("accept", 0)))
        elif symbol is None:
            due.extend([(kind, ("reduce", item[0])) for kind in nexts[plain[item[0]][0]]])
    return due


def deeds_in(state, due):
    """The one deed of each kind, or Clash where unlike ones are due."""
    deeds = {}
    clashing = []
    for kind, deed in due:
        if deeds.setdefault(kind, deed) != deed:
            clashing.append(kind)
    if clashing:
        raise Clash(state, min(clashing))
    return deeds
