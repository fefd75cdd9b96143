"""What a form takes of a text, and how far it looks for it."""


def taken_by(form, ask, size, at):
    """How many signs the form takes from the place on, and how many places it looked at."""
    place = at
    looked = 0
    for deed, signs, many in form:
        most = most_looked(deed, signs, many, size - place)
        stood = stood_at(deed, signs, most, ask, size, place)
        # An earlier part that took nothing may have looked farther than this one.
        looked = max(looked, place - at + min(stood + 1, most))
        if not holds(deed, signs, many, stood):
            return (0, looked)
        if many not in ("ahead", "not"):
            place += stood
    return (place - at, looked)


def most_looked(deed, signs, many, left):
    """How many places the part looks at where all that it tells stands there."""
    if deed == "row":
        return len(signs)
    if many in ("some", "any"):
        # All signs that are left, and the text's end.
        return left + 1
    return 1


def stood_at(deed, signs, most, ask, size, place):
    """How many signs stand there as the part tells them, ahead of the first that does not."""
    stood = 0
    while stood < most and place + stood < size:
        if not tells(deed, signs, stood, ask(place + stood)):
            break
        stood += 1
    return stood


def tells(deed, signs, number, sign):
    if deed == "row":
        return sign == signs[number]
    if deed == "in":
        return sign in signs
    return sign not in signs


def holds(deed, signs, many, stood):
    if many in ("maybe", "any"):
        return True
    least = len(signs) if deed == "row" else 1
    return (stood >= least) == (many != "not")
