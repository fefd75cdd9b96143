"""Promise 34: what is set aside of a row of kinds."""

import itertools
import unittest

from helping import GOOD_GRAMMARS, LISTS, SUM, good_chance_grammars, goes_on, kinds_of
from regrowth.aside import aside_of
from regrowth.tables import tables_of
from test_reading import DEEP, PLUS


def aside_told(plain, kinds):
    """The stretch told from the document, of a row of at most 40 words."""
    def reads(row):
        return goes_on(plain, row)[1]

    if not kinds or reads(kinds):
        return (0, 0)
    stretches = [(right - left, left, right) for left in range(len(kinds)) for right in range(left + 1, len(kinds) + 1)]
    for size, left, right in sorted(stretches):
        rest = kinds[:left] + kinds[right:]
        if not rest or reads(rest):
            return (left, right)
    raise AssertionError("the whole row is one")


class WrittenTest(unittest.TestCase):
    def check(self, rules, row, left, right):
        with self.subTest(row=row):
            kinds = row.split() if isinstance(row, str) else row
            told = aside_of(tables_of(rules), kinds)
            self.assertEqual(told, (left, right))
            self.assertEqual([type(told), type(told[0]), type(told[1])], [tuple, int, int])

    def test_a_row_that_reads(self):
        self.check(PLUS, "n", 0, 0)
        self.check(PLUS, "n plus n", 0, 0)
        self.check(LISTS, "l n c l r r", 0, 0)

    def test_no_words(self):
        self.check(PLUS, "", 0, 0)
        self.check(SUM, "", 0, 0)

    def test_one_word(self):
        self.check(PLUS, "plus", 0, 1)
        self.check(PLUS, "stray", 0, 1)

    def test_the_fewest_words(self):
        self.check(PLUS, "n plus plus n", 1, 2)
        self.check(PLUS, "n plus stray plus n", 1, 3)
        self.check(PLUS, "n plus n stray", 3, 4)
        self.check(PLUS, "stray n plus n", 0, 1)
        self.check(SUM, "l l n plus n", 0, 2)

    def test_the_stretch_farthest_left(self):
        self.check(PLUS, "n n", 0, 1)
        self.check(PLUS, "n plus plus plus n", 1, 3)
        self.check(PLUS, "n plus n n plus n", 2, 3)
        self.check(SUM, "l l n r", 0, 1)
        self.check(SUM, "l n r r", 2, 3)

    def test_behind_the_place_where_it_is_stuck_nothing_helps(self):
        self.check(PLUS, "plus n plus n plus n", 0, 1)

    def test_stuck_at_the_end(self):
        self.check(PLUS, "n plus", 1, 2)
        self.check(PLUS, "n plus n plus", 3, 4)
        self.check(LISTS, "l n c n", 0, 3)
        self.check(SUM, "n plus l n times n", 2, 3)

    def test_two_far_from_one_another_are_one_stretch(self):
        self.check(PLUS, "n plus stray n plus n stray", 1, 7)
        self.check(PLUS, "stray n plus n stray", 0, 5)
        self.check(PLUS, "n plus n stray n plus n stray plus n", 3, 8)

    def test_the_whole_row(self):
        self.check(PLUS, "plus plus", 0, 2)
        self.check(DEEP, "l l l", 0, 3)
        self.check(DEEP, "r n l", 0, 3)

    def test_forty_words(self):
        reads = ["n"] + ["plus", "n"] * 19
        self.check(PLUS, reads + ["plus"], 39, 40)
        self.check(PLUS, ["plus"] + reads, 0, 1)
        self.check(PLUS, ["plus"] * 40, 0, 40)
        self.check(PLUS, reads[:20] + ["plus"] + reads[20:], 19, 20)
        self.check(DEEP, ["l"] * 20 + ["n"] + ["r"] * 19, 0, 1)
        self.check(DEEP, ["l"] * 39 + ["n"], 0, 39)

    def test_more_than_forty_words(self):
        reads = ["n"] + ["plus", "n"] * 20
        self.check(PLUS, reads, 0, 0)
        self.check(PLUS, reads + ["plus"], 0, 42)
        self.check(PLUS, ["n"] + reads[:40], 0, 41)
        self.check(PLUS, ["n", "n"] + reads[2:], 0, 41)
        self.check(PLUS, ["n"] * 400, 0, 400)
        self.check(PLUS, ["n"] + ["plus", "n"] * 400, 0, 0)

    def test_a_kind_called_like_a_sort(self):
        self.check(PLUS, "e", 0, 1)
        self.check(PLUS, "n plus e", 1, 3)


class AllShortRowsTest(unittest.TestCase):
    def test_good_grammars(self):
        for name, rules in GOOD_GRAMMARS.items():
            tables = tables_of(rules)
            kinds = kinds_of(rules)
            for size in range(8 if len(kinds) < 3 else 5):
                for row in itertools.product(kinds, repeat=size):
                    row = list(row)
                    self.assertEqual(aside_of(tables, row), aside_told(tables[0], row), (name, row))

    def test_other_grammars(self):
        for rules, tables in good_chance_grammars(range(150), tables_of):
            for size in range(5):
                for row in itertools.product(kinds_of(rules) + ["stray"], repeat=size):
                    row = list(row)
                    self.assertEqual(aside_of(tables, row), aside_told(tables[0], row), (rules, row))

    def test_longer_rows(self):
        for name, rules in GOOD_GRAMMARS.items():
            tables = tables_of(rules)
            kinds = kinds_of(rules)
            for seed in range(40):
                row = [kinds[(seed * 31 + k * k * (seed + 3) // 2) % len(kinds)] for k in range(6 + seed % 6)]
                self.assertEqual(aside_of(tables, row), aside_told(tables[0], row), (name, row))

    def test_what_is_handed_in_stays(self):
        tables, kinds = tables_of(PLUS), ["n", "n", "plus"]
        aside_of(tables, kinds)
        self.assertEqual((tables, kinds), (tables_of(PLUS), ["n", "n", "plus"]))


if __name__ == "__main__":
    unittest.main()
