"""Promises 25 and 26: the deeds due, what clashes, and that no good grammar has two right trees for a row."""

import itertools
import unittest

from helping import GOOD_GRAMMARS, SUM, chance_grammar, kinds_of, right_trees
from regrowth.errors import Barren, Clash, GrowthError, Idle, NoFloor, NoRule, TooLarge
from regrowth.nexts import next_kinds
from regrowth.plain import plain_rules
from regrowth.states import states_of
from regrowth.tables import tables_of
from test_states import broad_rules

E0, E1 = ("e", 0), ("e", 1)


def due_of(plain):
    """For each state the set of deeds due for each kind, told from point 25."""
    states, behind = states_of(plain)
    nexts = next_kinds(plain)
    told = []
    for number, state in enumerate(states):
        due = {}
        for p, stood in state:
            symbol, parts, rule = plain[p]
            if stood < len(parts):
                if isinstance(parts[stood], str):
                    due.setdefault(parts[stood], set()).add(("shift", behind[number][parts[stood]]))
            elif p == 0:
                due.setdefault("end", set()).add(("accept", 0))
            else:
                for kind in nexts[symbol]:
                    due.setdefault(kind, set()).add(("reduce", p))
        told.append(due)
    return told


class WrittenTest(unittest.TestCase):
    def test_one_rule(self):
        self.assertEqual(tables_of([("e", 0, "none", ("n", "m"))]), (
            [(("", 0), (E0,), -1), (E0, ("n", "m"), 0)],
            [{E0: 1, "n": 2}, {}, {"m": 3}, {}],
            [{"n": ("shift", 2)}, {"end": ("accept", 0)}, {"m": ("shift", 3)}, {"end": ("reduce", 1)}],
        ))

    def test_a_left_side_with_a_step_up(self):
        plain, behind, deeds = tables_of([("e", 0, "left", ("e", "plus", "e")), ("e", 1, "none", ("n",))])
        self.assertEqual(behind, [{E0: 1, E1: 2, "n": 3}, {"plus": 4}, {}, {}, {E1: 5, "n": 3}, {}])
        self.assertEqual(deeds, [
            {"n": ("shift", 3)},
            {"plus": ("shift", 4), "end": ("accept", 0)},
            {"plus": ("reduce", 2), "end": ("reduce", 2)},
            {"plus": ("reduce", 3), "end": ("reduce", 3)},
            {"n": ("shift", 3)},
            {"plus": ("reduce", 1), "end": ("reduce", 1)},
        ])

    def test_every_state_has_its_deeds(self):
        for name, rules in GOOD_GRAMMARS.items():
            plain, behind, deeds = tables_of(rules)
            self.assertEqual(plain, plain_rules(rules))
            self.assertEqual(behind, states_of(plain)[1])
            told = [{kind: set([deed]) for kind, deed in state.items()} for state in deeds]
            self.assertEqual(told, due_of(plain), name)

    def test_a_grammar_of_a_hundred_and_fifty_states(self):
        plain, behind, deeds = tables_of(broad_rules(150))
        self.assertEqual((len(behind), len(deeds)), (150, 150))
        self.assertEqual(deeds[149], {"end": ("reduce", 18)})

    def test_a_deed_due_twice_alike_is_no_clash(self):
        rules = [("e", 0, "none", ("n", "a")), ("e", 0, "none", ("n", "b"))]
        self.assertEqual(tables_of(rules)[2][0], {"n": ("shift", 2)})


class ClashTest(unittest.TestCase):
    def check_clash(self, rules, state, kind):
        with self.subTest(rules=rules):
            with self.assertRaises(Clash) as caught:
                tables_of(rules)
            self.assertEqual((caught.exception.state, caught.exception.kind), (state, kind))

    def test_two_reduces(self):
        self.check_clash([("e", 0, "none", ("n",))] * 2, 2, "end")

    def test_shift_and_reduce(self):
        rules = [
            ("s", 0, "right", ("if", "s")), ("s", 0, "right", ("if", "s", "else", "s")), ("s", 0, "none", ("x",)),
        ]
        self.check_clash(rules, 4, "else")

    def test_accept_and_reduce(self):
        self.check_clash([("s", 0, "none", ("t",)), ("t", 0, "none", ("s",)), ("t", 0, "none", ("x",))], 1, "end")

    def test_the_first_kind_in_the_order_of_texts(self):
        twice = [("e", 0, "none", ("n",))] * 2
        for behind, kind in (
            (("z", "a", "m"), "a"), (("z", "y"), "y"), (("a", "Z", "m"), "Z"), (("f", "g"), "f"), (("z", "d"), "d"),
        ):
            rules = [("s", 0, "none", ("e", other)) for other in behind] + twice
            self.check_clash(rules, 3, kind)
        rules = [("s", 0, "none", ("e", "f")), ("s", 0, "none", ("e",))] + twice
        self.check_clash(rules, 3, "end")

    def test_the_least_state(self):
        # A clash for z in an earlier state than the one for a.
        rules = [
            ("s", 0, "none", ("t", "z")), ("s", 0, "none", ("q", "u", "a")),
            ("t", 0, "none", ("n",)), ("t", 0, "none", ("n",)), ("u", 0, "none", ("m",)), ("u", 0, "none", ("m",)),
        ]
        self.check_clash(rules, 4, "z")

    def test_of_other_grammars_the_least(self):
        clashed = good = 0
        for seed in range(3000):
            rules = chance_grammar(seed)
            try:
                plain = plain_rules(rules)
            except GrowthError:
                continue
            due = due_of(plain)
            unlike = [(number, kind) for number in range(len(due)) for kind in due[number] if len(due[number][kind]) > 1]
            if unlike:
                clashed += 1
                self.check_clash(rules, *min(unlike))
            else:
                good += 1
                deeds = tables_of(rules)[2]
                self.assertEqual([{kind: set([deed]) for kind, deed in state.items()} for state in deeds], due)
        self.assertGreater(min(clashed, good), 200)


class OrderOfRefusalsTest(unittest.TestCase):
    TWICE = [("s", 0, "none", ("n",))] * 2
    IDLE = [("i", 0, "none", ("n",))]
    BARREN = [("s", 0, "none", ("b",)), ("b", 0, "right", ("n", "b"))]
    NO_FLOOR = [("s", 0, "none", ("s", "n"))]
    NO_RULE = [("s", 100, "none", ("n",))]

    def check_refused(self, error, rules):
        with self.subTest(error=error):
            with self.assertRaises(GrowthError) as caught:
                tables_of(rules)
            self.assertIs(type(caught.exception), error)

    def test_each_ahead_of_the_next(self):
        large = broad_rules(151)
        self.check_refused(Clash, broad_rules(146) + self.TWICE)
        self.check_refused(TooLarge, large)
        self.check_refused(TooLarge, large + self.TWICE)
        self.check_refused(Idle, large + self.TWICE + self.IDLE)
        self.check_refused(Barren, large + self.IDLE + self.BARREN + self.TWICE[:1])
        self.check_refused(NoFloor, large + self.NO_FLOOR + self.BARREN + self.IDLE)
        self.check_refused(NoRule, large + self.NO_FLOOR + self.NO_RULE)
        self.check_refused(NoRule, [])

    def test_idle_ahead_of_clash(self):
        self.check_refused(Idle, self.TWICE + self.IDLE)


class OneRightTreeTest(unittest.TestCase):
    def check(self, rules, longest):
        """That no row of at most so many words has two right trees; how many rows have one."""
        found = 0
        for size in range(longest + 1):
            for row in itertools.product(kinds_of(rules), repeat=size):
                many = len(right_trees(rules, row))
                if many > 1:
                    self.fail((rules, row))
                found += many
        return found

    def test_good_grammars(self):
        for name, rules in GOOD_GRAMMARS.items():
            longest = {2: 9, 4: 7, 5: 6, 6: 5}.get(len(kinds_of(rules)), 5)
            self.assertGreater(self.check(rules, longest), 3, name)

    def test_other_grammars(self):
        found = 0
        for seed in range(400):
            rules = chance_grammar(seed)
            try:
                tables_of(rules)
            except GrowthError:
                continue
            found += self.check(rules, 5)
        self.assertGreater(found, 300)

    def test_two_right_trees_are_seen(self):
        # What is refused may have two; so the count above does tell something.
        rules = [("s", 0, "right", ("if", "s")), ("s", 0, "right", ("if", "s", "else", "s")), ("s", 0, "none", ("x",))]
        self.assertEqual(len(right_trees(rules, ["if", "if", "x", "else", "x"])), 2)


class TheAskersOwnTest(unittest.TestCase):
    def test_what_is_told_is_the_askers_own(self):
        rules = list(SUM)
        told, again = tables_of(rules), tables_of(rules)
        self.assertEqual([type(thing) for thing in (told,) + told], [tuple, list, list, list])
        for behind, deeds in zip(told[1], told[2]):
            self.assertEqual([type(behind), type(deeds)], [dict, dict])
            behind.clear()
            deeds.clear()
        for thing in told:
            thing.clear()
        self.assertEqual(rules, SUM)
        self.assertEqual(tables_of(rules), again)


if __name__ == "__main__":
    unittest.main()
