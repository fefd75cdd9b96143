"""Promises 38 and 41: which new words are old ones, and the nodes of a way."""

import itertools
import unittest

from helping import GOOD_GRAMMARS, LISTS, SUM, changed, each_change, kinds_of, some_changes
from regrowth.marks import carried, knitted
from regrowth.plain import plain_rules
from regrowth.tables import tables_of
from test_again import FAR, words_told
from test_reading import DEEP, PLUS, read
from test_words import BOOK, ODD


def carried_told(old, new, at, gone, come):
    """The same as carried, told from point 41."""
    lie = []
    place = 0
    for number, (kind, gap, long, looked) in enumerate(old):
        size = gap + long
        if place >= at + gone:
            lie.append((place - gone + come, kind, gap, long, number))
        elif place + size <= at:
            lie.append((place, kind, gap, long, number))
        place += size
    told, place = [], 0
    for kind, gap, long, looked in new:
        same = [entry[4] for entry in lie if entry[:4] == (place, kind, gap, long)]
        assert len(same) <= 1
        told.append(same[0] if same else -1)
        place += gap + long
    return told


class CarriedTest(unittest.TestCase):
    def check(self, text, at, gone, put, told, book=BOOK):
        with self.subTest(text=text, at=at, gone=gone, put=put):
            old = words_told(book, text)
            new = words_told(book, changed(text, at, gone, put))
            self.assertEqual(carried(old, new, at, gone, len(put)), told)

    def test_nothing_goes_and_nothing_comes_between_words(self):
        self.check("ab+cd", 2, 0, "", [0, 1, 2, 3])
        self.check("ab+cd", 0, 0, "", [0, 1, 2, 3])
        self.check("ab+cd", 5, 0, "", [0, 1, 2, 3])

    def test_within_a_word_even_an_empty_change_ends_it(self):
        self.check("ab+cd", 1, 0, "", [-1, 1, 2, 3])
        self.check("ab +cd", 2, 0, "", [0, 1, 2, 3])
        self.check("ab  +cd", 3, 0, "", [0, -1, 2, 3])

    def test_the_same_signs_put_again(self):
        self.check("ab+cd", 2, 1, "+", [0, -1, 2, 3])
        self.check("ab+cd", 3, 2, "cd", [0, 1, -1, 3])
        self.check("ab+cd", 0, 5, "ab+cd", [-1, -1, -1, 3])

    def test_at_a_words_begin(self):
        self.check("ab+cd", 3, 0, "x", [0, 1, -1, 3])
        self.check("ab+cd", 3, 0, "x+", [0, 1, -1, -1, 2, 3])
        # The gap is of the word, so a blank ahead of it makes it another one.
        self.check("ab+cd", 3, 0, " ", [0, 1, -1, 3])
        self.check("ab +cd", 2, 0, " ", [0, -1, 2, 3])

    def test_at_a_words_end(self):
        self.check("ab+cd", 2, 0, "x", [-1, 1, 2, 3])
        self.check("ab+cd", 2, 0, "+", [0, -1, 1, 2, 3])
        self.check("ab+cd", 5, 0, "+", [0, 1, 2, -1, 3])

    def test_a_word_that_looked_at_the_change_may_stay_the_same(self):
        self.check("ab+cd", 2, 1, "*", [0, -1, 2, 3])
        self.check("12.x", 3, 1, "y", [0, 1, -1, 3])

    def test_the_same_place_with_another_kind(self):
        # What comes behind makes a name of the word, which is as long as before.
        self.check("b cccc", 6, 0, "", [0, 1, 2, 3, 4, 5], FAR)
        self.check("bccc", 4, 0, "c", [-1, 1, 2, 3, -1, 4], FAR)

    def test_another_word_at_the_same_place(self):
        self.check("+ab", 0, 1, "x", [-1, 2])
        self.check("+ab", 0, 1, "1", [-1, 1, 2])
        self.check("1.x", 2, 1, "5", [-1, 3])

    def test_the_word_of_kind_end(self):
        self.check("", 0, 0, "", [0])
        self.check("", 0, 0, "ab", [-1, 0])
        self.check("ab", 0, 2, "", [1])
        self.check("ab ", 3, 0, " ", [0, -1])
        self.check("ab ", 2, 0, " ", [0, -1])
        self.check("ab ", 3, 0, "", [0, 1])

    def test_every_change_of_short_texts(self):
        for book, text, puts in (
            (BOOK, "if1--i\n+i", ["", "f", "-", "\n", "-- "]), (BOOK, "12.5 + ab", ["", ".", "1", "b ", "5 "]),
            (ODD, "abcbbabcab", ["", "a", "bb"]), (FAR, "a;b cccc a", ["", ";", "c", "a", " "]),
        ):
            old = words_told(book, text)
            for at, gone, put, new_text in each_change(text, puts):
                new = words_told(book, new_text)
                told = carried(list(old), new, at, gone, len(put))
                self.assertEqual(told, carried_told(old, new, at, gone, len(put)), (text, at, gone, put))

    def test_changes_one_behind_another(self):
        for book, signs in ((BOOK, "if1+-. \n>"), (ODD, "abc"), (FAR, "abc; ")):
            for seed in range(6):
                text = ""
                for at, gone, put, new_text in some_changes("", signs, seed, 80, 30):
                    old, new = words_told(book, text), words_told(book, new_text)
                    told = carried(old, new, at, gone, len(put))
                    self.assertEqual(told, carried_told(old, new, at, gone, len(put)))
                    text = new_text

    def test_what_is_handed_in_stays(self):
        old, new = words_told(BOOK, "ab+cd"), words_told(BOOK, "ab+xcd")
        carried(old, new, 3, 0, 1).clear()
        self.assertEqual((old, new), (words_told(BOOK, "ab+cd"), words_told(BOOK, "ab+xcd")))


class KnittedTest(unittest.TestCase):
    def check(self, rules, row, nodes):
        tables = tables_of(rules)
        self.assertEqual(knitted(tables[0], read(tables, row.split())), nodes)

    def test_one_word(self):
        self.check(PLUS, "n", [(1, [("word", 0)], 0, 1)])

    def test_words_and_nodes_as_parts(self):
        self.check(PLUS, "n plus n plus n", [
            (1, [("word", 0)], 0, 1), (1, [("word", 2)], 2, 1),
            (0, [("node", 0), ("word", 1), ("node", 1)], 0, 3),
            (1, [("word", 4)], 4, 1),
            (0, [("node", 2), ("word", 3), ("node", 3)], 0, 5),
        ])

    def test_nodes_within_nodes(self):
        self.check(DEEP, "l l n r r", [
            (1, [("word", 2)], 2, 1), (0, [("word", 1), ("node", 0), ("word", 3)], 1, 3),
            (0, [("word", 0), ("node", 1), ("word", 4)], 0, 5),
        ])

    def test_rules_of_one_part(self):
        rules = [("s", 0, "none", ("t",)), ("t", 0, "none", ("u",)), ("u", 0, "none", ("n", "m"))]
        self.check(rules, "n m", [(2, [("word", 0), ("word", 1)], 0, 2), (1, [("node", 0)], 0, 2), (0, [("node", 1)], 0, 2)])

    def test_lists(self):
        self.check(LISTS, "l l r c n r", [
            (1, [("word", 1), ("word", 2)], 1, 2), (4, [("node", 0)], 1, 2), (2, [("word", 4)], 4, 1),
            (3, [("node", 1), ("word", 3), ("node", 2)], 1, 4),
            (0, [("word", 0), ("node", 3), ("word", 5)], 0, 6),
        ])

    def test_all_short_rows(self):
        for name, rules in GOOD_GRAMMARS.items():
            tables = tables_of(rules)
            for size in range(1, 6):
                for row in itertools.product(kinds_of(rules), repeat=size):
                    way = read(tables, list(row))
                    if type(way) is list:
                        self.check_nodes(rules, row, way, knitted(tables[0], way))

    def check_nodes(self, rules, row, way, nodes):
        self.assertEqual([node[0] for node in nodes], [entry[0] for entry in way if entry[0] >= 0])
        self.assertEqual([node[3] for node in nodes], [entry[1] for entry in way if entry[0] >= 0])
        for rule, parts, begin, words in nodes:
            spans = [(k, 1) if what == "word" else nodes[k][2:] for what, k in parts]
            self.assertEqual(len(parts), len(rules[rule][3]))
            # The parts stand one behind another, and over all words of the node.
            self.assertEqual([span[0] for span in spans], [begin + sum(s[1] for s in spans[:k]) for k in range(len(spans))])
            self.assertEqual(sum(span[1] for span in spans), words)
            for (what, k), part in zip(parts, rules[rule][3]):
                self.assertEqual(part, row[k] if what == "word" else rules[nodes[k][0]][0])

    def test_the_askers_own(self):
        plain = plain_rules(SUM)
        way = read(tables_of(SUM), ["n", "plus", "n"])
        nodes, again = knitted(plain, way), knitted(plain, way)
        self.assertIs(type(nodes), list)
        for node in nodes:
            self.assertEqual([type(thing) for thing in node], [int, list, int, int])
            node[1].clear()
        nodes.clear()
        self.assertEqual(knitted(plain, way), again)
        self.assertEqual((plain, way), (plain_rules(SUM), read(tables_of(SUM), ["n", "plus", "n"])))


if __name__ == "__main__":
    unittest.main()
