"""Pieces: how the words of a text are parted, and which piece holds which."""

from regrowth.words import END

NO_HOLDER = -1


def pieces_of(kinds, ends):
    """The pieces of a row of kinds, tuples (begin, end, holder)."""
    deeds = dict(ends)
    pieces = []
    holders = [NO_HOLDER]
    begin = 0
    for number, kind in enumerate(kinds):
        if kind == END or kind in deeds:
            pieces.append((begin, number, holders[-1]))
            deed = deeds.get(kind)
            if deed == "open":
                holders.append(len(pieces) - 1)
            elif deed == "close" and len(holders) > 1:
                holders.pop()
            begin = number + 1
    return pieces
