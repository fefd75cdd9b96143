"""Promises 44 and 45: which row binds a name for a piece."""

import random
import unittest

from regrowth.scopes import binder

# Rule 0 binds its first part, rule 1 its third one, rule 2 asks alone, rule 3 does neither, rule 4 does both.
NOTES = [(-1, 0), (-1, 2), (0, -1), (-1, -1), (1, 0)]


def sheet_of(*pieces):
    """A sheet of pieces (holder, row, row ..), each row a text: the rule, then the texts of its words."""
    mark = 0
    sheet = []
    for holder, *rows in pieces:
        told = []
        for row in rows:
            rule, *texts = row.split()
            parts = []
            for text in texts:
                mark += 1
                parts.append((mark, None if text == "-" else text))
            mark += 1
            told.append((mark, int(rule), parts))
        sheet.append((holder, told))
    return sheet


def binder_told(sheet, notes, number, name):
    """The binder told from the document."""
    above = [-1]
    holder = sheet[number][0]
    while holder != -1:
        above.append(holder)
        holder = sheet[holder][0]
    told = [
        (piece, row)
        for piece in range(number) if sheet[piece][0] in above
        for row, (mark, rule, parts) in enumerate(sheet[piece][1])
        if notes[rule][1] != -1 and parts[notes[rule][1]][1] == name
    ]
    return max(told, default=None)


class BinderTest(unittest.TestCase):
    def check(self, sheet, number, name, place):
        with self.subTest(number=number, name=name):
            self.assertEqual(binder(sheet, NOTES, number, name), place)

    def test_none(self):
        self.check(sheet_of((-1,)), 0, "a", None)
        self.check(sheet_of((-1, "3 a"), (-1,)), 1, "a", None)
        self.check(sheet_of((-1, "2 a"), (-1, "0 b")), 1, "a", None)

    def test_in_an_earlier_piece(self):
        sheet = sheet_of((-1, "0 a"), (-1,), (-1, "2 a"))
        self.check(sheet, 1, "a", (0, 0))
        self.check(sheet, 2, "a", (0, 0))
        self.check(sheet, 2, "b", None)
        told = binder(sheet, NOTES, 1, "a")
        self.assertEqual([type(told), type(told[0]), type(told[1])], [tuple, int, int])

    def test_not_in_the_own_piece(self):
        sheet = sheet_of((-1, "0 a", "2 a"), (-1, "0 a"))
        self.check(sheet, 0, "a", None)
        self.check(sheet, 1, "a", (0, 0))

    def test_not_in_a_later_piece(self):
        self.check(sheet_of((-1, "2 a"), (-1, "0 a")), 0, "a", None)

    def test_the_last_piece_and_there_the_last_row(self):
        sheet = sheet_of((-1, "0 a", "0 a"), (-1, "0 a", "3 x", "0 b", "1 - - a", "2 a"), (-1, "0 b"), (-1,))
        self.check(sheet, 3, "a", (1, 3))
        self.check(sheet, 3, "b", (2, 0))
        self.check(sheet, 2, "b", (1, 2))
        self.check(sheet, 1, "a", (0, 1))

    def test_the_part_that_the_note_tells(self):
        sheet = sheet_of((-1, "1 a b c"), (-1, "4 d e"), (-1,))
        for name, place in (("a", None), ("b", None), ("c", (0, 0)), ("d", (1, 0)), ("e", None)):
            self.check(sheet, 2, name, place)

    def test_what_holds_it_is_seen(self):
        sheet = sheet_of((-1, "0 a"), (0,), (0, "0 b"), (2,), (2, "0 c"), (0,))
        self.check(sheet, 1, "a", (0, 0))
        self.check(sheet, 3, "a", (0, 0))
        self.check(sheet, 3, "b", (2, 0))
        self.check(sheet, 4, "c", None)

    def test_what_another_one_holds_is_not_seen(self):
        sheet = sheet_of((-1,), (0, "0 a"), (-1,), (2, "0 b"), (2,), (-1,))
        self.check(sheet, 2, "a", None)
        self.check(sheet, 3, "a", None)
        self.check(sheet, 4, "b", (3, 0))
        self.check(sheet, 5, "b", None)
        self.check(sheet, 5, "a", None)

    def test_beside_the_holder_and_beside_its_holder(self):
        sheet = sheet_of((-1, "0 a"), (-1,), (1, "0 b"), (1,), (3,), (4,))
        self.check(sheet, 5, "a", (0, 0))
        self.check(sheet, 5, "b", (2, 0))

    def test_a_nearer_piece_that_is_not_seen_is_passed_over(self):
        sheet = sheet_of((-1, "0 a"), (0, "0 a"), (-1,))
        self.check(sheet, 2, "a", (0, 0))

    def test_the_text_is_just_the_name(self):
        sheet = sheet_of((-1, "0 ab", "0 A"), (-1,))
        for name in ("a", "b", "abc", ""):
            self.check(sheet, 1, name, None)

    def test_many_sheets(self):
        for seed in range(200):
            chance = random.Random(seed)
            pieces = []
            for number in range(chance.randint(1, 8)):
                holder = chance.choice([-1, -1] + list(range(number)))
                rows = [
                    f"{chance.randint(0, 4)} " + " ".join(chance.choice("abc") for _ in range(3))
                    for _ in range(chance.randint(0, 3))
                ]
                pieces.append((holder, *rows))
            sheet = sheet_of(*pieces)
            for number in range(len(sheet)):
                for name in "abcd":
                    self.check(sheet, number, name, binder_told(sheet, NOTES, number, name))

    def test_what_is_handed_in_stays(self):
        pieces = [(-1, "0 a", "1 - - a"), (0, "2 a")]
        sheet, notes = sheet_of(*pieces), list(NOTES)
        binder(sheet, notes, 1, "a")
        self.assertEqual((sheet, notes), (sheet_of(*pieces), NOTES))


if __name__ == "__main__":
    unittest.main()
