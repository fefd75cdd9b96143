"""Promise 51: trees as texts."""

import unittest

from regrowth.brackets import tree_text

RULES = [("sum", 1, "left", ("sum", "plus", "sum")), ("sum", 2, "none", ("name",)), ("line", 0, "none", ("sum", "semi"))]


class TreeTextTest(unittest.TestCase):
    def test_nothing_is_read(self):
        self.assertEqual(tree_text(RULES, []), "")

    def test_words(self):
        self.assertEqual(tree_text(RULES, [(9, 1, [(1, "ab")])]), "(sum ab)")
        self.assertEqual(tree_text(RULES, [(9, 2, [(1, "x y"), (2, ";")])]), "(line x y ;)")

    def test_nodes(self):
        rows = [(7, 1, [(1, "a")]), (8, 1, [(3, "b")]), (9, 0, [(7, None), (2, "+"), (8, None)])]
        self.assertEqual(tree_text(RULES, rows), "(sum (sum a) + (sum b))")

    def test_nodes_within_nodes(self):
        rows = [
            (7, 1, [(1, "a")]), (8, 1, [(3, "b")]), (9, 0, [(7, None), (2, "+"), (8, None)]), (6, 1, [(5, "c")]),
            (10, 0, [(9, None), (4, "+"), (6, None)]), (11, 2, [(10, None), (12, ";")]),
        ]
        self.assertEqual(tree_text(RULES, rows), "(line (sum (sum (sum a) + (sum b)) + (sum c)) ;)")

    def test_a_hundred_nodes_one_within_another(self):
        rules = [("e", 0, "none", ("l", "e", "r")), ("e", 0, "none", ("n",))]
        rows = [(1, 1, [(1000, "n")])]
        for mark in range(2, 101):
            rows.append((mark, 0, [(1000 + mark, "("), (mark - 1, None), (2000 + mark, ")")]))
        self.assertEqual(tree_text(rules, rows), "(e ( " * 99 + "(e n)" + " ))" * 99)

    def test_what_is_handed_in_stays(self):
        rules, rows = list(RULES), [(7, 1, [(1, "a")])]
        tree_text(rules, rows)
        self.assertEqual((rules, rows), (RULES, [(7, 1, [(1, "a")])]))


if __name__ == "__main__":
    unittest.main()
