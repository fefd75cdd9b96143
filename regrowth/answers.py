"""Answers: the kinds of a sheet's rows, as a judge tells them, who is not asked again for what stayed."""

from regrowth.scopes import holders_of, last_seen, names_bound


class Answers:
    """Reckons one sheet behind the other."""

    def __init__(self, notes, judge):
        self.notes = list(notes)
        self.judge = judge
        # What each row of the sheet right before was judged by, and its kind, by the row's mark.
        self.judged = {}

    def reckon(self, sheet):
        """The kinds of the rows of each piece."""
        bound = names_bound(sheet, self.notes)
        judged = {}
        kinds = []
        for number, piece in enumerate(sheet):
            holders = holders_of(sheet, number)
            own = []
            for mark, rule, parts in piece[1]:
                given = tuple([judged[part][3] if text is None else text for part, text in parts])
                name = self.name_asked(rule, parts)
                place = last_seen(sheet, bound.get(name, []), number, holders)
                found = None if place is None else kinds[place[0]][place[1]]
                judged[mark] = self.judged_row(mark, rule, given, found)
                own.append(judged[mark][3])
            kinds.append(own)
        self.judged = judged
        return kinds

    def name_asked(self, rule, parts):
        """The name that a row of the rule asks for, or None."""
        asked = self.notes[rule][0]
        return parts[asked][1] if asked >= 0 else None

    def judged_row(self, mark, rule, given, found):
        """What the row is judged by, and its kind: (rule, given, found, kind)."""
        before = self.judged.get(mark)
        if before is not None and before[:3] == (rule, given, found):
            return before
        judge = self.judge
        # The judge may do with its list what it likes, so it gets one of its own.
        return (rule, given, found, judge(rule, list(given), found))
