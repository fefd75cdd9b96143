"""Promises 27 to 30, and of 2 and 3 what touches them: how a row of words is read."""

import itertools
import unittest

from helping import GOOD_GRAMMARS, LISTS, SUM, good_chance_grammars, goes_on, kept_ask, kinds_of, right_trees
from regrowth.errors import Stuck
from regrowth.reading import read_row
from regrowth.steps import is_right
from regrowth.tables import tables_of

PLUS = [("e", 0, "left", ("e", "plus", "e")), ("e", 1, "none", ("n",))]
DEEP = [("e", 0, "none", ("l", "e", "r")), ("e", 0, "none", ("n",))]


def read(tables, row):
    """The way, or the place where the row is stuck."""
    try:
        return read_row(tables, kept_ask(row)[0], len(row))
    except Stuck as stuck:
        return stuck.place


def way_told(tables, row):
    """The same as `read`, told from points 27 and 29 with whole stacks."""
    plain, behind, deeds = tables
    stack, way, k = [(0, 0)], [], 0
    while True:
        deed, number = deeds[stack[-1][0]].get(row[k] if k < len(row) else "end", ("stuck", 0))
        if deed == "stuck":
            return k
        if deed == "accept":
            return way
        if deed == "shift":
            way.append((-1, 1, stack[-1][0]))
            stack.append((number, 1))
            k += 1
        if deed == "reduce":
            symbol, parts, rule = plain[number]
            words = sum(entry[1] for entry in stack[-len(parts):])
            stack = stack[:-len(parts)]
            if rule >= 0:
                way.append((rule, words, stack[-1][0]))
            stack.append((behind[stack[-1][0]][symbol], words))


class WrittenTest(unittest.TestCase):
    def test_one_word(self):
        # State 0 is the first, and the word is taken in it.
        self.assertEqual(read(tables_of(PLUS), ["n"]), [(-1, 1, 0), (1, 1, 0)])

    def test_two_joined(self):
        self.assertEqual(read(tables_of(PLUS), ["n", "plus", "n"]), [
            (-1, 1, 0), (1, 1, 0), (-1, 1, 1), (-1, 1, 4), (1, 1, 4), (0, 3, 0),
        ])

    def test_three_joined(self):
        self.assertEqual(read(tables_of(PLUS), ["n", "plus", "n", "plus", "n"]), [
            (-1, 1, 0), (1, 1, 0), (-1, 1, 1), (-1, 1, 4), (1, 1, 4), (0, 3, 0),
            (-1, 1, 1), (-1, 1, 4), (1, 1, 4), (0, 5, 0),
        ])

    def test_nodes_within_nodes(self):
        self.assertEqual(read(tables_of(DEEP), ["l", "l", "n", "r", "r"]), [
            (-1, 1, 0), (-1, 1, 2), (-1, 1, 2), (1, 1, 2), (-1, 1, 4), (0, 3, 2), (-1, 1, 4), (0, 5, 0),
        ])

    def test_a_rule_of_one_part_that_is_a_sort(self):
        rules = [("s", 0, "none", ("t",)), ("t", 0, "none", ("u",)), ("u", 0, "none", ("n", "m"))]
        way = read(tables_of(rules), ["n", "m"])
        self.assertEqual(way, [(-1, 1, 0), (-1, 1, 4), (2, 2, 0), (1, 2, 0), (0, 2, 0)])

    def test_kinds_of_values(self):
        way = read(tables_of(SUM), ["n", "plus", "n"])
        self.assertIs(type(way), list)
        for entry in way:
            self.assertIs(type(entry), tuple)
            self.assertEqual([type(number) for number in entry], [int, int, int])

    def test_a_long_row(self):
        tables = tables_of(PLUS)
        row = ["n"] + ["plus", "n"] * 2000
        way = read(tables, row)
        self.assertEqual(way[-1], (0, 4001, 0))
        self.assertEqual(len(way), 4001 + 2001 + 2000)

    def test_a_deep_tree(self):
        way = read(tables_of(DEEP), ["l"] * 99 + ["n"] + ["r"] * 99)
        self.assertEqual(way[-1], (0, 199, 0))
        self.assertEqual(read(tables_of(DEEP), ["l"] * 99 + ["n"] + ["r"] * 98), 198)


class StuckTest(unittest.TestCase):
    def check_stuck(self, rules, row, place):
        with self.subTest(row=row):
            tables = tables_of(rules)
            with self.assertRaises(Stuck) as caught:
                read_row(tables, kept_ask(row)[0], len(row))
            self.assertEqual(caught.exception.place, place)
            self.assertIs(type(caught.exception.place), int)

    def test_no_words(self):
        def ask(k):
            raise AssertionError("asked where there is no word")

        for rules in GOOD_GRAMMARS.values():
            with self.assertRaises(Stuck) as caught:
                read_row(tables_of(rules), ask, 0)
            self.assertEqual(caught.exception.place, 0)

    def test_at_the_first_word(self):
        self.check_stuck(PLUS, ["plus"], 0)
        self.check_stuck(PLUS, ["plus", "n"], 0)
        self.check_stuck(PLUS, ["m"], 0)
        self.check_stuck(PLUS, ["stray"], 0)

    def test_in_the_midst(self):
        self.check_stuck(PLUS, ["n", "n"], 1)
        self.check_stuck(PLUS, ["n", "plus", "plus", "n"], 2)
        self.check_stuck(SUM, ["l", "n", "r", "r", "n"], 3)
        self.check_stuck(SUM, ["n", "hat", "minus", "n"], 2)
        self.check_stuck(LISTS, ["l", "n", "c", "r"], 3)

    def test_at_the_end(self):
        self.check_stuck(PLUS, ["n", "plus"], 2)
        self.check_stuck(SUM, ["l", "n"], 2)
        self.check_stuck(LISTS, ["l"], 1)

    def test_a_kind_called_like_a_sort(self):
        self.check_stuck(PLUS, ["e"], 0)
        self.check_stuck(PLUS, ["n", "plus", "e"], 2)


class AllShortRowsTest(unittest.TestCase):
    def check(self, rules, tables, longest):
        found = 0
        for size in range(longest + 1):
            for row in itertools.product(kinds_of(rules), repeat=size):
                row = list(row)
                told = read(tables, row)
                trees = right_trees(rules, row)
                if trees:
                    found += 1
                    self.assertIs(type(told), list, (rules, row))
                    self.assertEqual([entry[0] for entry in told], trees[0])
                    self.assertTrue(is_right(rules, trees[0], row))
                    self.check_way(told)
                else:
                    self.assertEqual((told, False), goes_on(tables[0], row), (rules, row))
                self.assertEqual(told, way_told(tables, row))
        return found

    def check_way(self, way):
        """That a node's state is the one in which its first word was taken."""
        states = []
        for step, words, state in way:
            if step == -1:
                self.assertEqual(words, 1)
                states.append(state)
            else:
                self.assertEqual(state, states[-words])

    def test_good_grammars(self):
        for name, rules in GOOD_GRAMMARS.items():
            longest = 9 if len(kinds_of(rules)) < 3 else 5
            self.assertGreaterEqual(self.check(rules, tables_of(rules), longest), 3, name)

    def test_other_grammars(self):
        found = 0
        for rules, tables in good_chance_grammars(range(300), tables_of):
            found += self.check(rules, tables, 4)
        self.assertGreater(found, 100)


class TheAskersOwnTest(unittest.TestCase):
    def test_what_is_handed_in_stays_and_what_is_told_is_the_askers_own(self):
        tables, row = tables_of(SUM), ["n", "plus", "n"]
        way = read(tables, row)
        again = list(way)
        way.clear()
        self.assertEqual(tables, tables_of(SUM))
        self.assertEqual(row, ["n", "plus", "n"])
        self.assertEqual(read(tables, row), again)
        read(tables, ["n", "n"])
        self.assertEqual(read(tables, row), again)


if __name__ == "__main__":
    unittest.main()
