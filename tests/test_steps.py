"""Promise 21, and the right trees of promise 26: which steps are right for a row of kinds."""

import itertools
import unittest

from helping import BIG, CHAIN, GOOD_GRAMMARS, LISTS, MIDST, SUM, kinds_of, right_trees
from regrowth.steps import is_right


class RightTest(unittest.TestCase):
    def check(self, rules, steps, row, right):
        with self.subTest(steps=steps, row=row):
            self.assertIs(is_right(rules, steps, row.split()), right)

    def test_one_word(self):
        self.check(SUM, [-1, 4], "n", True)
        self.check(LISTS, [-1, 2], "n", True)

    def test_sides(self):
        # The left side joins from the left, the right side from the right.
        self.check(SUM, [-1, 4, -1, -1, 4, 0, -1, -1, 4, 0], "n plus n plus n", True)
        self.check(SUM, [-1, 4, -1, -1, 4, -1, -1, 4, 0, 0], "n plus n plus n", False)
        self.check(SUM, [-1, 4, -1, -1, 4, -1, -1, 4, 3, 3], "n hat n hat n", True)
        self.check(SUM, [-1, 4, -1, -1, 4, 3, -1, -1, 4, 3], "n hat n hat n", False)

    def test_neither_side(self):
        rules = [("e", 0, "none", ("e", "is", "e")), ("e", 1, "none", ("n",))]
        self.check(rules, [-1, 1, -1, -1, 1, 0], "n is n", True)
        self.check(rules, [-1, 1, -1, -1, 1, 0, -1, -1, 1, 0], "n is n is n", False)
        self.check(rules, [-1, 1, -1, -1, 1, -1, -1, 1, 0, 0], "n is n is n", False)

    def test_ranks(self):
        self.check(SUM, [-1, 4, -1, -1, 4, -1, -1, 4, 1, 0], "n plus n times n", True)
        self.check(SUM, [-1, 4, -1, -1, 4, 0, -1, -1, 4, 1], "n plus n times n", False)
        self.check(SUM, [-1, 4, -1, -1, 4, 1, -1, -1, 4, 0], "n times n plus n", True)
        self.check(SUM, [-1, 4, -1, -1, 4, -1, -1, 4, 0, 1], "n times n plus n", False)

    def test_a_rank_below_the_floor(self):
        # Behind a word that joins at a higher rank a sort of a lower one has no right tree.
        self.check(SUM, [-1, 4, -1, -1, -1, 4, 2, 3], "n hat minus n", False)
        self.check(SUM, [-1, -1, 4, -1, -1, 4, 3, 2], "minus n hat n", True)
        self.check(SUM, [-1, -1, 4, 2, -1, -1, 4, 3], "minus n hat n", False)
        self.check(SUM, [-1, -1, -1, 4, 2, 2], "minus minus n", False)

    def test_in_the_midst_the_floor_is_the_least(self):
        inner = [-1, -1, 2, -1, -1, 2, -1, -1, 2, 0]
        row = "if if n then n else n then n else n"
        self.check(MIDST, [-1] + inner + [-1, -1, 2, -1, -1, 2, 0], row, True)
        last = "if n then n else if n then n else n"
        self.check(MIDST, [-1, -1, 2, -1, -1, 2, -1] + inner + [0], last, False)

    def test_nodes_within_nodes(self):
        self.check(LISTS, [-1, -1, 2, 4, -1, -1, -1, 1, 3, -1, 0], "l n c l r r", True)
        self.check(LISTS, [-1, -1, 2, 4, -1, -1, -1, 1, 4, 3, -1, 0], "l n c l r r", False)

    def test_several_sorts(self):
        self.check(CHAIN, [-1, -1, -1, -1, 7, 6, 4, 0], "let n is n", True)
        self.check(CHAIN, [-1, -1, -1, -1, 7, 6, 4, 1], "let n is n", False)
        self.check(CHAIN, [-1, 7, 6, -1, -1, 7, 6, 3, 1], "n eq n", True)


class NotRightTest(unittest.TestCase):
    ROW = ["n", "plus", "n"]
    RIGHT = [-1, 4, -1, -1, 4, 0]

    def check_not(self, steps, row=ROW, rules=SUM):
        with self.subTest(steps=steps, row=row):
            self.assertIs(is_right(rules, steps, row), False)

    def test_the_right_one(self):
        self.assertIs(is_right(SUM, self.RIGHT, self.ROW), True)

    def test_a_number_that_is_no_rules(self):
        for wrong in (-2, 6, 7, 1000, BIG, -BIG, 10 ** 60 - 1):
            for place in range(len(self.RIGHT) + 1):
                self.check_not(self.RIGHT[:place] + [wrong] + self.RIGHT[place:])
            self.check_not([wrong])

    def test_a_word_taken_twice(self):
        self.check_not([-1, 4, -1, -1, 4, 0, -1])
        self.check_not([-1, 4, -1, -1, 4, 0, -1, -1, 4, 0])
        self.check_not([-1, 4, -1, 4], ["n"])

    def test_a_word_not_taken(self):
        self.check_not([-1, 4])
        self.check_not(self.RIGHT, self.ROW + ["plus"])
        self.check_not(self.RIGHT, self.ROW + ["n"])
        self.check_not([], ["n"])

    def test_too_few_for_a_rule(self):
        self.check_not([0])
        self.check_not([4, -1, 4], ["n"])
        self.check_not([-1, 4, 0], ["n"])
        self.check_not([-1, 4, -1, 0], ["n", "plus"])
        self.check_not([5, -1, 4], ["n"])

    def test_another_kind(self):
        self.check_not(self.RIGHT, ["n", "times", "n"])
        self.check_not(self.RIGHT, ["n", "plus", "m"])
        self.check_not([-1, 4], ["stray"])
        self.check_not([-1, 4], ["end"])
        self.check_not([-1, 4], ["N"])

    def test_another_sort(self):
        self.check_not([-1, -1, 2, -1, 0], ["l", "n", "r"], LISTS)
        self.check_not([-1, -1, 2, 4, 4, -1, 0], ["l", "n", "r"], LISTS)

    def test_a_word_where_a_node_is_due_and_a_node_where_a_word_is(self):
        self.check_not([-1, -1, -1, 0])
        self.check_not([-1, 4, 4], ["n"])
        self.check_not([-1, 4, -1, -1, 4, 0], ["n", "e", "n"])

    def test_a_word_whose_kind_is_called_like_a_sort(self):
        self.check_not([-1, -1, -1, 0], ["e", "plus", "e"])
        self.check_not([-1], ["e"])
        self.check_not([-1], ["s"], LISTS)

    def test_more_than_one_thing_left(self):
        self.check_not([-1, 4, -1, -1, 4])
        self.check_not([-1, 4, -1, 4], ["n", "n"])

    def test_nothing_left(self):
        self.check_not([], [])
        self.check_not([], ["n"])

    def test_a_word_left(self):
        self.check_not([-1], ["n"])

    def test_a_node_of_another_sort_than_the_first_rules(self):
        self.check_not([-1, 2, 4], ["n"], LISTS)
        self.check_not([-1, 7], ["n"], CHAIN)
        self.check_not([-1, 7, 6, 4], ["n"], CHAIN)
        rules = [("s", 0, "none", ("t", "x")), ("t", 0, "none", ("n",))]
        self.check_not([-1, 1], ["n"], rules)
        self.assertIs(is_right(rules, [-1, 1, -1, 0], ["n", "x"]), True)

    def test_parts_in_another_order(self):
        self.check_not([-1, -1, 4, -1, 5], ["r", "n", "l"])
        self.assertIs(is_right(SUM, [-1, -1, 4, -1, 5], ["l", "n", "r"]), True)


class AllShortRowsTest(unittest.TestCase):
    def test_each_right_tree_is_right_and_what_is_changed_in_it_is_not(self):
        for name, rules in GOOD_GRAMMARS.items():
            found = 0
            for size in range(1, 6):
                for row in itertools.product(kinds_of(rules), repeat=size):
                    trees = right_trees(rules, row)
                    for steps in trees:
                        found += 1
                        self.assertIs(is_right(rules, steps, list(row)), True)
                        self.check_changed(rules, steps, list(row), trees)
            self.assertGreaterEqual(found, 3, name)

    def check_changed(self, rules, steps, row, trees):
        for place in range(len(steps)):
            others = [steps[:place] + steps[place + 1:]]
            others += [steps[:place] + [step] + steps[place + 1:] for step in range(-1, len(rules))]
            for other in others:
                self.assertIs(is_right(rules, other, row), other in trees)

    def test_all_steps_for_all_rows(self):
        # Every list of up to seven steps, against the trees told from the document.
        rules = [("e", 0, "left", ("e", "p", "e")), ("e", 1, "none", ("n",))]
        for size in range(0, 5):
            for row in itertools.product(["n", "p"], repeat=size):
                trees = right_trees(rules, row)
                for many in range(0, 8):
                    for steps in itertools.product([-1, 0, 1], repeat=many):
                        if is_right(rules, list(steps), list(row)) != (list(steps) in trees):
                            self.fail((row, steps))

    def test_a_long_row(self):
        many = 1600
        steps = [-1, 4] + [-1, -1, 4, 0] * many
        row = ["n"] + ["plus", "n"] * many
        self.assertIs(is_right(SUM, steps, row), True)
        self.assertIs(is_right(SUM, steps[:-1], row), False)

    def test_what_is_handed_in_stays(self):
        rules, steps, row = list(SUM), [-1, 4, -1, -1, 4, 0], ["n", "plus", "n"]
        is_right(rules, steps, row)
        self.assertEqual((rules, steps, row), (SUM, [-1, 4, -1, -1, 4, 0], ["n", "plus", "n"]))


if __name__ == "__main__":
    unittest.main()
