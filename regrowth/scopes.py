"""Scopes: which row binds a name for a piece."""


def binder(sheet, notes, number, name):
    """The piece and the row in which the name is bound for the piece of that number, or None."""
    places = names_bound(sheet, notes).get(name, [])
    return last_seen(sheet, places, number, holders_of(sheet, number))


def names_bound(sheet, notes):
    """For each name that is bound the places where it is, (piece, row), in their order."""
    bound = {}
    for piece, entry in enumerate(sheet):
        for row, told in enumerate(entry[1]):
            part = notes[told[1]][1]
            if part >= 0:
                bound.setdefault(told[2][part][1], []).append((piece, row))
    return bound


def holders_of(sheet, number):
    """The holder of the piece, that one's holder, and so on, up to -1, as the keys of a dict."""
    holder = sheet[number][0]
    holders = {-1: True}
    while holder >= 0:
        holders[holder] = True
        holder = sheet[holder][0]
    return holders


def last_seen(sheet, places, number, holders):
    """The last of the places in a piece that the piece of that number sees, or None."""
    for piece, row in reversed(places):
        if piece < number and sheet[piece][0] in holders:
            return (piece, row)
    return None
