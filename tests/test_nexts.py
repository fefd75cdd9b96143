"""Promise 22: first kinds and next kinds."""

import unittest

from helping import CHAIN, GOOD_GRAMMARS, LISTS, chance_grammar
from regrowth.errors import GrowthError
from regrowth.nexts import first_kinds, next_kinds
from regrowth.plain import plain_rules


def rows_of(plain, begin, most, many):
    """Rows of symbols, of at most `most`, that come from the symbol by the plain rules, the first `many` of them."""
    left = {}
    for symbol, parts, rule in plain:
        left.setdefault(symbol, []).append(parts)
    met = {(begin,): True}
    waiting = [(begin,)]
    while waiting and len(met) < many:
        row = waiting.pop(0)
        for place, symbol in enumerate(row):
            for parts in left.get(symbol, []):
                new = row[:place] + parts + row[place + 1:]
                if len(new) <= most and new not in met:
                    met[new] = True
                    waiting.append(new)
    return list(met)


class WrittenTest(unittest.TestCase):
    def test_through_step_ups(self):
        plain = plain_rules([
            ("e", 1, "left", ("e", "plus", "e")), ("e", 2, "none", ("minus", "e")), ("e", 3, "none", ("n",)),
            ("e", 3, "none", ("l", "e", "r")),
        ])
        self.assertEqual(first_kinds(plain), {
            ("", 0): ["l", "minus", "n"], ("e", 1): ["l", "minus", "n"], ("e", 2): ["l", "minus", "n"],
            ("e", 3): ["l", "n"],
        })
        self.assertEqual(next_kinds(plain), {
            ("", 0): ["end"], ("e", 1): ["end", "plus", "r"], ("e", 2): ["end", "plus", "r"],
            ("e", 3): ["end", "plus", "r"],
        })

    def test_where_a_symbol_cannot_stand_last(self):
        plain = plain_rules([("s", 0, "none", ("t", "u", "z")), ("t", 0, "none", ("a",)), ("u", 0, "none", ("t", "b"))])
        self.assertEqual(first_kinds(plain), {("", 0): ["a"], ("s", 0): ["a"], ("t", 0): ["a"], ("u", 0): ["a"]})
        self.assertEqual(next_kinds(plain), {
            ("", 0): ["end"], ("s", 0): ["end"], ("t", 0): ["a", "b"], ("u", 0): ["z"],
        })

    def test_kinds_in_the_order_of_texts(self):
        plain = plain_rules([
            ("s", 0, "none", ("t", "z")), ("s", 0, "none", ("t", "a")), ("s", 0, "none", ("t",)),
            ("s", 0, "none", ("t", "Z")), ("s", 0, "none", ("t", "f")), ("t", 0, "none", ("x",)),
            ("t", 0, "none", ("B",)), ("t", 0, "none", ("b",)),
        ])
        self.assertEqual(next_kinds(plain)[("t", 0)], ["Z", "a", "end", "f", "z"])
        self.assertEqual(first_kinds(plain)[("t", 0)], ["B", "b", "x"])

    def test_lists_within_lists(self):
        plain = plain_rules(LISTS)
        self.assertEqual(next_kinds(plain), {
            ("", 0): ["end"], ("s", 0): ["c", "end", "r"], ("row", 0): ["c", "r"],
        })

    def test_several_sorts(self):
        told = next_kinds(plain_rules(CHAIN))
        self.assertEqual(told[("s", 3)], ["end"])
        self.assertEqual(told[("e", 0)], ["end", "r"])
        self.assertEqual(told[("f", 0)], ["end", "eq", "r"])
        self.assertEqual(told[("g", 0)], ["end", "eq", "hat", "r"])
        self.assertEqual(first_kinds(plain_rules(CHAIN))[("s", 3)], ["l", "let", "n", "not"])

    def test_a_sort_that_goes_in_a_ring(self):
        plain = plain_rules([("s", 0, "none", ("t", "a")), ("t", 0, "none", ("s", "b")), ("t", 0, "none", ("c",))])
        self.assertEqual(first_kinds(plain), {("", 0): ["c"], ("s", 0): ["c"], ("t", 0): ["c"]})
        self.assertEqual(next_kinds(plain), {("", 0): ["end"], ("s", 0): ["b", "end"], ("t", 0): ["a"]})


class ByRowsTest(unittest.TestCase):
    """First and next kinds against those seen in the rows that come from the first plain rule."""

    def check(self, plain, name, most, many):
        firsts, nexts = first_kinds(plain), next_kinds(plain)
        seen = {symbol: set() for symbol, parts, rule in plain}
        begun = {symbol: set() for symbol in seen}
        for row in rows_of(plain, ("", 0), most, many):
            for symbol, behind in zip(row, row[1:] + ("end",)):
                if symbol in seen and isinstance(behind, str):
                    seen[symbol].add(behind)
        for symbol in seen:
            for row in rows_of(plain, symbol, 7, 2000):
                if isinstance(row[0], str):
                    begun[symbol].add(row[0])
        self.assertEqual(nexts, {symbol: sorted(kinds) for symbol, kinds in seen.items()}, name)
        self.assertEqual(firsts, {symbol: sorted(kinds) for symbol, kinds in begun.items()}, name)

    def test_good_grammars(self):
        for name, rules in GOOD_GRAMMARS.items():
            self.check(plain_rules(rules), name, 7, 20000)

    def test_other_grammars(self):
        done = 0
        for seed in range(120):
            try:
                plain = plain_rules(chance_grammar(seed))
            except GrowthError:
                continue
            if max(len(parts) for symbol, parts, rule in plain) <= 3:
                done += 1
                self.check(plain, seed, 6, 8000)
        self.assertGreater(done, 20)


class TheAskersOwnTest(unittest.TestCase):
    def test_what_is_told_is_the_askers_own(self):
        plain = plain_rules(LISTS)
        for told_by in (first_kinds, next_kinds):
            told, again = told_by(plain), told_by(plain)
            self.assertIs(type(told), dict)
            for symbol in told:
                self.assertIs(type(told[symbol]), list)
                told[symbol].clear()
            told.clear()
            self.assertEqual(told_by(plain), again)
        self.assertEqual(plain, plain_rules(LISTS))

    def test_no_two_symbols_share_a_list(self):
        for told_by in (first_kinds, next_kinds):
            told = told_by(plain_rules(CHAIN))
            self.assertEqual(len({id(kinds) for kinds in told.values()}), len(told))


if __name__ == "__main__":
    unittest.main()
