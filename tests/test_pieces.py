"""Promises 35 and 36: how words are parted into pieces, and which piece holds which."""

import itertools
import unittest

from regrowth.pieces import pieces_of

ENDS = [("semi", "stop"), ("lb", "open"), ("rb", "close")]


def pieces_told(kinds, ends):
    """The pieces told from the document, piece by piece."""
    deeds = {kind: deed for kind, deed in ends}
    enders = [k for k, kind in enumerate(kinds) if kind in deeds or kind == "end"]
    told, laid = [], ()
    for number, ender in enumerate(enders):
        begin = enders[number - 1] + 1 if number else 0
        told.append((begin, ender, laid[-1] if laid else -1))
        if deeds.get(kinds[ender]) == "open":
            laid += (number,)
        if deeds.get(kinds[ender]) == "close":
            laid = laid[:-1]
    return told


class PiecesTest(unittest.TestCase):
    def check(self, row, pieces, ends=ENDS):
        with self.subTest(row=row):
            told = pieces_of(row.split() + ["end"], ends)
            self.assertEqual(told, pieces)
            self.assertIs(type(told), list)
            self.assertEqual([type(piece) for piece in told], [tuple] * len(told))

    def test_no_words(self):
        self.check("", [(0, 0, -1)])
        self.check("", [(0, 0, -1)], [])

    def test_no_ends(self):
        self.check("a b semi c", [(0, 4, -1)], [])
        self.check("a b stray c", [(0, 4, -1)])

    def test_stop(self):
        self.check("a semi b c semi d", [(0, 1, -1), (2, 4, -1), (5, 6, -1)])

    def test_pieces_without_words(self):
        self.check("semi", [(0, 0, -1), (1, 1, -1)])
        self.check("semi semi a semi", [(0, 0, -1), (1, 1, -1), (2, 3, -1), (4, 4, -1)])

    def test_open(self):
        self.check("a lb b semi c", [(0, 1, -1), (2, 3, 0), (4, 5, 0)])

    def test_close(self):
        self.check("a lb b rb c", [(0, 1, -1), (2, 3, 0), (4, 5, -1)])
        self.check("a lb b semi c rb d semi e", [(0, 1, -1), (2, 3, 0), (4, 5, 0), (6, 7, -1), (8, 9, -1)])

    def test_more_that_close_than_open(self):
        self.check("rb a rb rb b", [(0, 0, -1), (1, 2, -1), (3, 3, -1), (4, 5, -1)])
        self.check("lb rb rb lb a", [(0, 0, -1), (1, 1, 0), (2, 2, -1), (3, 3, -1), (4, 5, 3)])

    def test_holders_within_holders(self):
        self.check("a lb b lb c rb d rb e", [(0, 1, -1), (2, 3, 0), (4, 5, 1), (6, 7, 0), (8, 9, -1)])
        self.check("lb lb lb", [(0, 0, -1), (1, 1, 0), (2, 2, 1), (3, 3, 2)])

    def test_several_kinds_of_one_deed(self):
        ends = [("a", "open"), ("b", "open"), ("c", "close"), ("d", "close"), ("e", "stop")]
        self.check("a b c e d e", [(0, 0, -1), (1, 1, 0), (2, 2, 1), (3, 3, 0), (4, 4, 0), (5, 5, -1), (6, 6, -1)], ends)

    def test_stray_as_an_end(self):
        self.check("a stray b", [(0, 1, -1), (2, 3, -1)], [("stray", "stop")])

    def test_all_short_rows(self):
        for size in range(7):
            for row in itertools.product(["x", "semi", "lb", "rb"], repeat=size):
                kinds = list(row) + ["end"]
                if pieces_of(kinds, ENDS) != pieces_told(kinds, ENDS):
                    self.fail(kinds)

    def test_twenty_four_ends(self):
        ends = [(f"k{number}", "stop") for number in range(24)]
        self.check(" ".join(kind for kind, deed in ends), [(k, k, -1) for k in range(25)], ends)

    def test_what_is_handed_in_stays(self):
        kinds, ends = ["a", "lb", "b", "end"], list(ENDS)
        pieces_of(kinds, ends).clear()
        self.assertEqual((kinds, ends), (["a", "lb", "b", "end"], ENDS))
        self.assertEqual(pieces_of(kinds, ends), [(0, 1, -1), (2, 3, 0)])


if __name__ == "__main__":
    unittest.main()
