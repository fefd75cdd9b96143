"""Promises 19 and 20, with 17 and 18 ahead of them: the plain rules, and what is refused."""

import unittest

from regrowth.errors import Barren, GrowthError, Idle, NoFloor, NoRule
from regrowth.plain import plain_rules

SUM = [
    ("e", 1, "left", ("e", "plus", "e")),
    ("e", 2, "left", ("e", "times", "e")),
    ("e", 3, "none", ("n",)),
]


class PlainRulesTest(unittest.TestCase):
    def test_one_rule(self):
        self.assertEqual(plain_rules([("e", 7, "none", ("n", "m"))]), [
            (("", 0), (("e", 7),), -1),
            (("e", 7), ("n", "m"), 0),
        ])

    def test_ranks_and_step_ups(self):
        self.assertEqual(plain_rules(SUM), [
            (("", 0), (("e", 1),), -1),
            (("e", 1), (("e", 1), "plus", ("e", 2)), 0),
            (("e", 1), (("e", 2),), -1),
            (("e", 2), (("e", 2), "times", ("e", 3)), 1),
            (("e", 2), (("e", 3),), -1),
            (("e", 3), ("n",), 2),
        ])

    def test_the_order_told(self):
        # Ranks that fall, sorts between one another, several rules of one rank.
        rules = [
            ("s", 9, "none", ("e", "stop")),
            ("e", 30, "none", ("n",)),
            ("f", 5, "right", ("n", "hat", "f")),
            ("e", 4, "none", ("not", "e")),
            ("s", 0, "left", ("s", "s")),
            ("e", 30, "none", ("l", "s", "r")),
            ("f", 8, "none", ("m",)),
            ("e", 10, "none", ("f", "is", "f")),
            ("e", 4, "right", ("e", "so", "e")),
        ]
        self.assertEqual(plain_rules(rules), [
            (("", 0), (("s", 0),), -1),
            (("s", 0), (("s", 0), ("s", 9)), 4),
            (("s", 0), (("s", 9),), -1),
            (("s", 9), (("e", 4), "stop"), 0),
            (("e", 4), ("not", ("e", 10)), 3),
            (("e", 4), (("e", 10), "so", ("e", 4)), 8),
            (("e", 4), (("e", 10),), -1),
            (("e", 10), (("f", 5), "is", ("f", 5)), 7),
            (("e", 10), (("e", 30),), -1),
            (("e", 30), ("n",), 1),
            (("e", 30), ("l", ("s", 0), "r"), 5),
            (("f", 5), ("n", "hat", ("f", 5)), 2),
            (("f", 5), (("f", 8),), -1),
            (("f", 8), ("m",), 6),
        ])

    def test_the_first_symbol_has_the_least_rank_of_the_first_rules_sort(self):
        plain = plain_rules([("e", 3, "none", ("n",)), ("e", 0, "none", ("m", "e"))])
        self.assertEqual(plain[0], (("", 0), (("e", 0),), -1))

    def test_the_same_rule_twice(self):
        self.assertEqual(plain_rules([("e", 0, "none", ("n",))] * 2), [
            (("", 0), (("e", 0),), -1), (("e", 0), ("n",), 0), (("e", 0), ("n",), 1),
        ])

    def test_kinds_of_values(self):
        plain = plain_rules(SUM)
        self.assertIs(type(plain), list)
        for rule in plain:
            self.assertIs(type(rule), tuple)
            self.assertEqual([type(thing) for thing in rule], [tuple, tuple, int])

    def test_the_askers_own(self):
        rules = list(SUM)
        told = plain_rules(rules)
        told.clear()
        self.assertEqual(rules, SUM)
        self.assertEqual(len(plain_rules(rules)), 6)


class RefusedTest(unittest.TestCase):
    def check_refused(self, error, *rules):
        with self.subTest(rules=rules):
            with self.assertRaises(GrowthError) as caught:
                plain_rules(list(rules))
            self.assertIs(type(caught.exception), error)

    N = ("e", 1, "none", ("n",))

    def test_no_rule(self):
        self.check_refused(NoRule)
        self.check_refused(NoRule, ("e", 100, "none", ("n",)))
        self.check_refused(NoRule, ("e", 0, "none", ("e",)))

    def test_no_floor(self):
        self.check_refused(NoFloor, ("e", 1, "none", ("e", "plus")), self.N)
        self.check_refused(NoFloor, ("e", 1, "right", ("e", "plus", "e")), self.N)
        self.check_refused(NoFloor, ("e", 1, "left", ("e", "plus", "e")), self.N)
        self.check_refused(NoFloor, self.N, ("f", 2, "left", ("not", "f")), ("f", 2, "none", ("n",)))

    def test_barren(self):
        self.check_refused(Barren, ("e", 0, "left", ("e", "n")))
        self.check_refused(Barren, ("e", 0, "none", ("f", "n")), ("f", 0, "none", ("e", "m")))
        self.check_refused(Barren, self.N, ("e", 1, "none", ("f",)), ("f", 0, "right", ("n", "f")))

    def test_barren_at_a_higher_rank(self):
        # From rank 0 a row comes, from rank 1 none.
        self.check_refused(Barren, ("e", 0, "none", ("n",)), ("e", 1, "left", ("e", "m")))

    def test_not_barren_at_a_lower_rank(self):
        self.assertEqual(len(plain_rules([("e", 0, "left", ("e", "m")), self.N])), 4)

    def test_idle(self):
        self.check_refused(Idle, self.N, ("f", 0, "none", ("n",)))
        self.check_refused(Idle, self.N, ("f", 0, "none", ("e",)))
        self.check_refused(
            Idle, self.N, ("f", 0, "none", ("g",)), ("g", 0, "none", ("f", "x")), ("g", 0, "none", ("n",)),
        )
        self.check_refused(Idle, self.N, ("e", 1, "none", ("f",)), ("f", 0, "none", ("n",)), ("h", 0, "none", ("f",)))

    def test_reached_through_others(self):
        rules = [
            ("s", 0, "none", ("n",)), ("s", 50, "none", ("a",)), ("a", 0, "none", ("x", "b")),
            ("c", 0, "none", ("m",)), ("b", 0, "none", ("x", "c")), ("b", 9, "none", ("y", "c")),
        ]
        self.assertEqual(len(plain_rules(rules)), 1 + 6 + 2)

    def test_reached_by_a_rule_of_any_rank(self):
        rules = [("s", 5, "none", ("n",)), ("s", 0, "none", ("x", "a")), ("a", 0, "none", ("m",))]
        self.assertEqual(len(plain_rules(rules)), 1 + 3 + 1)

    def test_the_order_of_refusals(self):
        no_rule = ("z", 0, "none", ())
        no_floor = ("e", 1, "none", ("e", "plus"))
        barren = ("e", 1, "none", ("b",)), ("b", 0, "right", ("n", "b"))
        idle = ("i", 0, "none", ("n",))
        self.check_refused(NoRule, self.N, no_floor, *barren, idle, no_rule)
        self.check_refused(NoFloor, self.N, *barren, idle, no_floor)
        self.check_refused(Barren, self.N, idle, *barren)
        self.check_refused(Idle, self.N, idle)

    def test_barren_and_idle_at_once(self):
        self.check_refused(Barren, self.N, ("i", 0, "right", ("n", "i")))

    def test_no_floor_where_nothing_is_reached(self):
        self.check_refused(NoFloor, self.N, ("i", 0, "none", ("n", "i")), ("i", 0, "none", ("n",)))


if __name__ == "__main__":
    unittest.main()
