"""Promises 23 and 24: the states of plain rules, and their numbers."""

import unittest

from helping import GOOD_GRAMMARS, SUM, chance_grammar
from regrowth.errors import GrowthError, TooLarge
from regrowth.plain import plain_rules
from regrowth.states import states_of

E0, E1 = ("e", 0), ("e", 1)


def broad_rules(many):
    """Rules with so many states: each part of a rule of kinds of its own has a state behind it."""
    parts = many - 2
    rules = []
    while parts:
        size = min(8, parts)
        rules.append(("s", 0, "none", tuple(f"k{len(rules)}x{place}" for place in range(size))))
        parts -= size
    return rules


class WrittenTest(unittest.TestCase):
    def test_one_rule(self):
        plain = plain_rules([("e", 0, "none", ("n", "m"))])
        self.assertEqual(states_of(plain), (
            [[(0, 0), (1, 0)], [(0, 1)], [(1, 1)], [(1, 2)]],
            [{E0: 1, "n": 2}, {}, {"m": 3}, {}],
        ))

    def test_a_left_side_with_a_step_up(self):
        plain = plain_rules([("e", 0, "left", ("e", "plus", "e")), ("e", 1, "none", ("n",))])
        self.assertEqual(states_of(plain), (
            [
                [(0, 0), (1, 0), (2, 0), (3, 0)], [(0, 1), (1, 1)], [(2, 1)], [(3, 1)],
                [(1, 2), (3, 0)], [(1, 3)],
            ],
            [{E0: 1, E1: 2, "n": 3}, {"plus": 4}, {}, {}, {E1: 5, "n": 3}, {}],
        ))

    def test_a_state_met_again_and_items_that_bring_others(self):
        plain = plain_rules([("e", 0, "none", ("l", "e", "r")), ("e", 0, "none", ("n",))])
        self.assertEqual(states_of(plain), (
            [
                [(0, 0), (1, 0), (2, 0)], [(0, 1)], [(1, 0), (1, 1), (2, 0)], [(2, 1)], [(1, 2)], [(1, 3)],
            ],
            [{E0: 1, "l": 2, "n": 3}, {}, {E0: 4, "l": 2, "n": 3}, {}, {"r": 5}, {}],
        ))

    def test_numbers_go_by_the_items_not_by_the_symbols(self):
        plain = plain_rules([("e", 0, "none", ("z", "a")), ("e", 0, "none", ("b", "y")), ("e", 0, "none", ("z", "c"))])
        states, behind = states_of(plain)
        self.assertEqual(behind[0], {E0: 1, "z": 2, "b": 3})
        self.assertEqual(states[2], [(1, 1), (3, 1)])
        self.assertEqual(behind[2], {"a": 4, "c": 5})
        self.assertEqual(behind[3], {"y": 6})


class EachGrammarTest(unittest.TestCase):
    """What the document says of items, states and numbers, seen one by one."""

    def brought(self, plain, items):
        state = set(items)
        while True:
            symbols = {plain[p][1][stood] for p, stood in state if stood < len(plain[p][1])}
            more = {(q, 0) for q, rule in enumerate(plain) if rule[0] in symbols} - state
            if not more:
                return sorted(state)
            state |= more

    def check(self, plain):
        states, behind = states_of(plain)
        self.assertEqual(len(states), len(behind))
        self.assertEqual(states[0], self.brought(plain, [(0, 0)]))
        self.assertEqual(len({tuple(state) for state in states}), len(states))
        met = 1
        for number, state in enumerate(states):
            self.assertEqual(state, self.brought(plain, state))
            symbols = []
            for p, stood in state:
                if stood < len(plain[p][1]) and plain[p][1][stood] not in symbols:
                    symbols.append(plain[p][1][stood])
            self.assertEqual(set(behind[number]), set(symbols))
            for symbol in symbols:
                items = [(p, stood + 1) for p, stood in state if plain[p][1][stood:stood + 1] == (symbol,)]
                after = behind[number][symbol]
                self.assertEqual(states[after], self.brought(plain, items))
                self.assertLessEqual(after, met)
                met += after == met
        self.assertEqual(met, len(states))

    def test_good_grammars(self):
        for name, rules in GOOD_GRAMMARS.items():
            with self.subTest(name):
                self.check(plain_rules(rules))

    def test_other_grammars(self):
        done = 0
        for seed in range(600):
            try:
                plain = plain_rules(chance_grammar(seed))
            except GrowthError:
                continue
            done += 1
            self.check(plain)
        self.assertGreater(done, 100)


class TooLargeTest(unittest.TestCase):
    def test_a_hundred_and_fifty_states(self):
        for many in (10, 149, 150):
            states, behind = states_of(plain_rules(broad_rules(many)))
            self.assertEqual((len(states), len(behind)), (many, many))
        # The rules are gone through side by side, so the last state is the end of the last long one.
        self.assertEqual((states[149], behind[149]), ([(18, 8)], {}))

    def test_more(self):
        for many in (151, 152, 160, 194):
            with self.subTest(many), self.assertRaises(TooLarge):
                states_of(plain_rules(broad_rules(many)))


class TheAskersOwnTest(unittest.TestCase):
    def test_what_is_told_is_the_askers_own(self):
        plain = plain_rules(SUM)
        told = states_of(plain)
        self.assertEqual([type(told), type(told[0]), type(told[1])], [tuple, list, list])
        again = states_of(plain)
        for state, behind in zip(told[0], told[1]):
            self.assertEqual([type(state), type(behind)], [list, dict])
            state.clear()
            behind.clear()
        told[0].clear()
        self.assertEqual(states_of(plain), again)
        self.assertEqual(plain, plain_rules(SUM))


if __name__ == "__main__":
    unittest.main()
