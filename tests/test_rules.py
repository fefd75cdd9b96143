"""Promises 17 and 18: which rules are a grammar, and the floors of their parts."""

import unittest

from helping import BIG
from regrowth.errors import NoFloor, NoRule
from regrowth.rules import check_rules, floor_of

GOOD = ("e", 0, "none", ("n",))


class CheckRulesTest(unittest.TestCase):
    def check_good(self, *rules):
        with self.subTest(rules=rules):
            self.assertIsNone(check_rules(list(rules)))

    def check_refused(self, *rules):
        with self.subTest(rules=rules), self.assertRaises(NoRule):
            check_rules(list(rules))

    def check_rule_refused(self, *rule):
        """That the rule is refused wherever it stands."""
        self.check_refused(rule)
        self.check_refused(rule, GOOD)
        self.check_refused(GOOD, rule)
        self.check_refused(GOOD, rule, GOOD)

    def test_how_many_rules(self):
        self.check_refused()
        self.check_good(GOOD)
        self.check_good(*[GOOD] * 24)
        self.check_refused(*[GOOD] * 25)
        self.check_refused(*[GOOD] * 200)

    def test_ranks(self):
        for rank in (0, 1, 98, 99):
            self.check_good(("e", rank, "none", ("n",)))
        for rank in (-1, 100, -BIG, BIG):
            self.check_rule_refused("e", rank, "none", ("n",))

    def test_sides(self):
        for side in ("left", "right", "none"):
            self.check_good(("e", 0, side, ("n",)))
        for side in ("", "Left", "both", "non", "left ", "n"):
            self.check_rule_refused("e", 0, side, ("n",))

    def test_how_many_parts(self):
        self.check_rule_refused("e", 0, "none", ())
        self.check_good(("e", 0, "none", ("n",)))
        self.check_good(("e", 0, "none", ("n",) * 8))
        self.check_rule_refused("e", 0, "none", ("n",) * 9)
        self.check_rule_refused("e", 0, "none", ("n",) * 50)

    def test_texts_that_are_no_sort(self):
        for sort in ("", "end", "stray"):
            self.check_rule_refused(sort, 0, "none", ("n",))
        for sort in ("End", "ends", "strays", "endstray", " "):
            self.check_good((sort, 0, "none", ("n",)))

    def test_texts_that_are_no_part(self):
        for part in ("", "end", "stray"):
            for parts in ((part,), (part, "n"), ("n", part), ("n", part, "n"), ("n",) * 7 + (part,)):
                self.check_rule_refused("e", 0, "none", parts)
        for part in ("End", "ends", "strays", " "):
            self.check_good(("e", 0, "none", (part,)))

    def test_the_own_sort_as_the_one_part(self):
        self.check_rule_refused("e", 0, "none", ("e",))
        self.check_rule_refused("e", 7, "left", ("e",))
        self.check_rule_refused("e", 7, "right", ("e",))
        self.check_good(("e", 0, "none", ("e", "e")))
        self.check_good(("e", 0, "none", ("f",)), ("f", 0, "none", ("e",)))

    def test_the_edges_together(self):
        self.check_good(*[("s", 99, "right", ("p",) * 8)] * 24)

    def test_what_is_handed_in_stays(self):
        rules = [GOOD, ("e", 1, "left", ("e", "plus", "e"))]
        check_rules(rules)
        floor_of(rules, 1, 0)
        self.assertEqual(rules, [GOOD, ("e", 1, "left", ("e", "plus", "e"))])


class FloorTest(unittest.TestCase):
    # Ranks 3, 5, 9 of the sort e, each side; ranks 2 and 7 of the sort f.
    RULES = [
        ("e", 5, "left", ("e", "plus", "e", "plus", "e")),
        ("e", 5, "right", ("e", "hat", "e", "hat", "e")),
        ("e", 5, "none", ("e", "is", "e", "is", "e")),
        ("e", 3, "none", ("not", "e")),
        ("e", 9, "none", ("n",)),
        ("e", 9, "none", ("f",)),
        ("f", 7, "none", ("open", "e", "f", "close")),
        ("f", 2, "right", ("deep", "f")),
        ("f", 2, "left", ("f", "call")),
        ("e", 9, "left", ("e", "e", "up")),
        ("e", 3, "right", ("e", "e")),
        ("f", 7, "none", ("e", "f", "e")),
    ]

    def floors(self, number):
        return [floor_of(self.RULES, number, place) for place in range(len(self.RULES[number][3]))]

    def test_left(self):
        self.assertEqual(self.floors(0), [5, None, 3, None, 9])

    def test_right(self):
        self.assertEqual(self.floors(1), [9, None, 3, None, 5])

    def test_none(self):
        self.assertEqual(self.floors(2), [9, None, 3, None, 9])

    def test_the_own_sort_last_alone(self):
        self.assertEqual(self.floors(3), [None, 5])
        self.assertEqual(self.floors(7), [None, 2])

    def test_the_own_sort_first_alone(self):
        self.assertEqual(self.floors(8), [2, None])

    def test_the_kind_of_a_word(self):
        self.assertEqual(self.floors(4), [None])

    def test_another_sort(self):
        self.assertEqual(self.floors(5), [2])
        self.assertEqual(self.floors(11), [3, 2, 3])

    def test_the_own_sort_in_the_midst(self):
        self.assertEqual(self.floors(6), [None, 3, 2, None])
        self.assertEqual(self.floors(9), [9, 3, None])

    def test_first_and_last_beside_one_another(self):
        self.assertEqual(self.floors(10), [5, 3])

    def test_one_rank_alone(self):
        rules = [("e", 4, "left", ("e", "e", "e")), ("e", 4, "none", ("n",))]
        self.assertEqual(floor_of(rules, 0, 0), 4)
        self.assertEqual(floor_of(rules, 0, 1), 4)
        with self.assertRaises(NoFloor):
            floor_of(rules, 0, 2)

    def test_no_floor_for_this_part_alone(self):
        rules = [
            ("e", 99, "none", ("e", "e", "mid", "e")), ("e", 99, "left", ("e", "x", "e")),
            ("e", 99, "right", ("e", "x", "e")), ("e", 0, "none", ("n",)),
        ]
        told = []
        for number, rule in enumerate(rules):
            for place in range(len(rule[3])):
                try:
                    told.append(floor_of(rules, number, place))
                except NoFloor:
                    told.append("no floor")
        self.assertEqual(told, [
            "no floor", 0, None, "no floor",
            99, None, "no floor",
            "no floor", None, 99,
            None,
        ])

    def test_rank_nought_is_a_floor(self):
        rules = [("s", 1, "none", ("e",)), ("e", 0, "left", ("e", "n")), ("e", 1, "none", ("n",))]
        self.assertEqual(floor_of(rules, 0, 0), 0)
        self.assertEqual(floor_of(rules, 1, 0), 0)
        self.assertIs(type(floor_of(rules, 0, 0)), int)

    def test_a_rank_of_another_sort_is_no_rank_above(self):
        rules = [("e", 1, "none", ("e", "n")), ("e", 0, "none", ("f",)), ("f", 2, "none", ("n",))]
        with self.assertRaises(NoFloor):
            floor_of(rules, 0, 0)


if __name__ == "__main__":
    unittest.main()
