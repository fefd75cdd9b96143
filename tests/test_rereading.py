"""Promises 4 and 31 to 33, and of 2 and 3 what touches them: how a row that was changed is read again."""

import unittest

from helping import (
    BIG, CHAIN, GOOD_GRAMMARS, LISTS, SUM, changed, each_change, good_chance_grammars, kept_ask, kinds_of,
    some_changes, unfit,
)
from regrowth.errors import NoFit, Stuck
from regrowth.rereading import read_again
from regrowth.tables import tables_of
from test_reading import DEEP, PLUS, read


def nodes_of(way):
    """Tuples (first word, words, place of its first word in the way, its own place there) for each node."""
    words, told = [], []
    for place, (step, many, state) in enumerate(way):
        if step == -1:
            words.append(place)
        else:
            told.append((len(words) - many, many, words[-many], place))
    return told


def whole_nodes(old, new, at, gone, come):
    """The old nodes that stay whole, told from point 32: tuples (new first word, words, place, place)."""
    states = [entry[2] for entry in new if entry[0] == -1]
    told = []
    for first, many, begin, place in nodes_of(old):
        now = None
        if first + many < at:
            now = first
        if first >= at + gone:
            now = first - gone + come
        if now is not None and states[now] == old[place][2]:
            told.append((now, many, begin, place))
    return told


def may_be_asked(whole, many):
    """The words that point 33 allows."""
    allowed = set(range(many))
    for first, words, begin, place in whole:
        allowed -= set(range(first, first + words))
    for first, words, begin, place in whole:
        # A node that is put into another one is told ahead of it in the way.
        if not any(b <= begin and place < p for f, w, b, p in whole):
            allowed.add(first)
    return allowed


class AgainTest(unittest.TestCase):
    def check(self, tables, row, at, gone, put):
        """That it is read as the new row is, with no word asked that may not be; the words asked."""
        old = read(tables, row)
        self.assertIs(type(old), list, row)
        handed, new = list(old), changed(row, at, gone, put)
        expected = read(tables, new)
        ask, asked = kept_ask(new)
        try:
            told = read_again(tables, ask, len(new), handed, at, gone, len(put))
        except Stuck as stuck:
            told = stuck.place
        if told != expected:
            self.assertEqual(told, expected, (row, at, gone, put))
        if handed != old:
            self.fail("the old way did not stay")
        if type(expected) is list:
            whole = whole_nodes(old, expected, at, gone, len(put))
            over = set(asked) - may_be_asked(whole, len(new))
            if over:
                self.fail((row, at, gone, put, sorted(over)))
            self.check_whole(old, expected, whole)
        return sorted(asked)

    def check_whole(self, old, new, whole):
        words = [place for place, entry in enumerate(new) if entry[0] == -1]
        for first, many, begin, place in whole:
            now = words[first]
            self.assertEqual(new[now:now + place + 1 - begin], old[begin:place + 1])

    def test_ahead_of_the_change(self):
        # Over n plus n plus n stands a node, and the word behind it lies ahead of the change.
        row = "n plus n plus n plus n".split()
        self.assertEqual(self.check(tables_of(PLUS), row, 7, 0, ["plus", "n"]), [0, 5, 6, 7, 8])
        self.assertEqual(self.check(tables_of(PLUS), row, 6, 1, ["n"]), [0, 5, 6])

    def test_a_node_whose_next_word_is_the_first_that_went_or_came(self):
        tables, row = tables_of(PLUS), "n plus n plus n".split()
        # At 4 the node over 0 to 2 stays whole; at 3 it does not, but the node over 0 does.
        self.assertEqual(self.check(tables, row, 4, 1, ["n"]), [0, 3, 4])
        self.assertEqual(self.check(tables, row, 3, 1, ["plus"]), [0, 1, 2, 3, 4])
        self.assertEqual(self.check(tables, row, 3, 0, ["plus", "n"]), [0, 1, 2, 3, 4, 5, 6])
        self.assertEqual(self.check(tables, row, 1, 0, ["plus", "n"]), [0, 1, 2, 3, 4, 5, 6])

    def test_behind_the_change(self):
        tables = tables_of(SUM)
        row = "n plus l n plus n r".split()
        self.assertEqual(self.check(tables, row, 0, 1, ["n", "plus", "n"]), [0, 1, 2, 3, 4])
        self.assertEqual(self.check(tables, row, 0, 0, ["n", "plus"]), [0, 1, 2, 3, 4])

    def test_behind_the_change_in_another_state(self):
        # Taken in another state the node behind does not stay whole, but those within it do.
        tables = tables_of(SUM)
        row = "n plus n times n".split()
        self.assertEqual(self.check(tables, row, 0, 2, []), [0, 1, 2])
        row = "l n plus n r".split()
        self.assertEqual(self.check(tables, row, 0, 0, ["n", "times"]), [0, 1, 2, 3, 6])
        row = "n plus l l n r r".split()
        self.assertEqual(self.check(tables, row, 1, 1, ["times"]), [0, 1, 2, 3, 6])

    def test_the_change_within_a_node(self):
        tables = tables_of(LISTS)
        row = "l l n c n r c l n r c n r".split()
        self.assertEqual(self.check(tables, row, 8, 1, ["n"]), [0, 1, 6, 7, 8, 9, 10, 11, 12])
        self.assertEqual(self.check(tables, row, 8, 0, ["n", "c"]), [0, 1, 6, 7, 8, 9, 10, 11, 12, 13, 14])

    def test_nothing_goes_and_nothing_comes(self):
        tables, row = tables_of(PLUS), "n plus n plus n".split()
        self.assertEqual(self.check(tables, row, 0, 0, []), [0])
        self.assertEqual(self.check(tables, row, 4, 0, []), [0, 3, 4])
        # The row's end lies behind the change, so nothing but what is ahead of the last word stays whole.
        self.assertEqual(self.check(tables, row, 5, 0, []), [0, 3, 4])

    def test_all_of_it(self):
        tables, row = tables_of(PLUS), "n plus n".split()
        self.assertEqual(self.check(tables, row, 0, 3, ["n"]), [0])
        self.assertEqual(self.check(tables, row, 0, 3, ["n", "plus", "n"]), [0, 1, 2])
        self.check(tables, row, 0, 3, [])

    def test_long_rows(self):
        tables = tables_of(LISTS)
        row = ["l"] + ["l", "n", "c", "n", "r", "c"] * 800 + ["n", "r"]
        asked = self.check(tables, row, 2402, 1, ["l", "r"])
        # Of each list behind the change its first word and the comma behind it, and no more.
        self.assertEqual(asked[:2], [0, 1])
        self.assertLess(len(asked), 820)
        deep = ["l"] * 90 + ["n"] + ["r"] * 90
        row = ["l"] + (deep + ["c"]) * 20 + ["n", "r"]
        asked = self.check(tables, row, 1, 0, ["n", "c"])
        # The first deep list is taken in another state now, but what is within it is not.
        lists, commas = [185 + 182 * k for k in range(19)], [184 + 182 * k for k in range(20)]
        self.assertEqual(asked, [0, 1, 2, 3, 4, 183] + sorted(lists + commas) + [3643, 3644])

    def test_where_it_does_not_read(self):
        tables = tables_of(PLUS)
        self.check(tables, "n plus n".split(), 1, 1, [])
        self.check(tables, "n plus n".split(), 3, 0, ["plus"])
        self.check(tables, "n plus n".split(), 0, 0, ["plus"])
        self.check(tables, "n plus n plus n".split(), 4, 1, ["stray"])

    def test_every_change_of_some_rows(self):
        for rules, row, puts in (
            (PLUS, "n plus n plus n", ["", "n", "plus", "plus n", "n plus"]),
            (SUM, "n plus n times l minus n hat n r", ["", "n", "plus n", "l n r", "times", "minus"]),
            (LISTS, "l l r c n c l n c l n r r r", ["", "n", "c n", "n c", "l r", "l", "r"]),
            (CHAIN, "let n is not n hat l n r eq n", ["", "n", "not", "l n r", "eq", "hat n"]),
            (DEEP, "l l n r r", ["", "l", "r", "n", "l n r"]),
        ):
            tables = tables_of(rules)
            row = row.split()
            for at, gone, put, new in each_change(row, [put.split() for put in puts]):
                self.check(tables, row, at, gone, put)

    def test_changes_one_behind_another(self):
        read_often = 0
        for name, rules in GOOD_GRAMMARS.items():
            tables = tables_of(rules)
            for seed in range(12):
                row = short_row(rules, seed)
                for wide in some_changes(row, kinds_of(rules), seed, 40, 14):
                    # From the last row that did read, whether this one reads or not.
                    new = wide[3]
                    for at, gone, put in changes_between(row, new):
                        self.check(tables, row, at, gone, put)
                    if type(read(tables, new)) is list:
                        read_often += 1
                        row = new
        self.assertGreater(read_often, 20)

    def test_from_each_row_that_reads_to_each_other_one(self):
        for name, rules in GOOD_GRAMMARS.items():
            tables = tables_of(rules)
            rows = rows_that_read(rules, tables, 5 if len(kinds_of(rules)) > 2 else 8)
            for row in rows[:60]:
                for new in rows[:60]:
                    for at, gone, put in changes_between(row, new):
                        self.check(tables, row, at, gone, put)

    def test_other_grammars(self):
        for rules, tables in good_chance_grammars(range(400), tables_of):
            rows = rows_that_read(rules, tables, 5)[-12:]
            for row in rows:
                for new in rows:
                    for at, gone, put in changes_between(row, new):
                        self.check(tables, row, at, gone, put)


def short_row(rules, seed):
    rows = rows_that_read(rules, tables_of(rules), 4)
    return rows[seed * 7 % len(rows)]


def rows_that_read(rules, tables, longest):
    """All rows of at most so many words that read, the shorter ones first."""
    kinds = kinds_of(rules)
    told, open_rows = [], [[]]
    for size in range(longest):
        longer = []
        for row in open_rows:
            for kind in kinds:
                place = read(tables, row + [kind])
                if type(place) is list:
                    told.append(row + [kind])
                if type(place) is list or place > size:
                    longer.append(row + [kind])
        open_rows = longer
    return told


def changes_between(row, new):
    """Some changes that make the one of the other: the least one, and wider ones."""
    head = 0
    while head < min(len(row), len(new)) and row[head] == new[head]:
        head += 1
    tail = 0
    while tail < min(len(row), len(new)) - head and row[-1 - tail] == new[-1 - tail]:
        tail += 1
    for left in range(head + 1):
        for right in range(tail + 1):
            yield left, len(row) - left - right, new[left:len(new) - right]


class RefusedTest(unittest.TestCase):
    def check_refused(self, old, many, at, gone, come):
        def ask(k):
            raise AssertionError("asked where it is refused")

        handed = list(old)
        with self.subTest(many=many, at=at, gone=gone, come=come), self.assertRaises(NoFit):
            read_again(tables_of(PLUS), ask, many, handed, at, gone, come)
        self.assertEqual(handed, old)

    def test_numbers_that_do_not_fit(self):
        old = read(tables_of(PLUS), "n plus n plus n".split())
        for many in (0, 3, 5, 7):
            for at, gone, come in unfit(5, many):
                self.check_refused(old, many, at, gone, come)

    def test_a_size_that_does_not_come_out(self):
        old = read(tables_of(PLUS), "n plus n".split())
        for many in (0, 2, 4, BIG):
            self.check_refused(old, many, 0, 0, 0)
            self.check_refused(old, many, 1, 1, 1)

    def test_a_row_is_as_long_as_its_words_not_as_its_way(self):
        old = read(tables_of(PLUS), "n plus n".split())
        self.assertEqual(len(old), 6)
        self.check_refused(old, 6, 0, 0, 0)
        self.check_refused(old, 2, 4, 1, 0)

    def test_ahead_of_stuck(self):
        old = read(tables_of(PLUS), ["n"])
        row = ["plus", "plus"]
        with self.assertRaises(NoFit):
            read_again(tables_of(PLUS), kept_ask(row)[0], 2, old, 0, 1, 1)
        with self.assertRaises(NoFit):
            read_again(tables_of(PLUS), kept_ask([])[0], 0, old, 0, 0, 0)
        with self.assertRaises(Stuck) as caught:
            read_again(tables_of(PLUS), kept_ask([])[0], 0, old, 0, 1, 0)
        self.assertEqual(caught.exception.place, 0)
        with self.assertRaises(Stuck) as caught:
            read_again(tables_of(PLUS), kept_ask(row)[0], 2, old, 0, 1, 2)
        self.assertEqual(caught.exception.place, 0)


class TheAskersOwnTest(unittest.TestCase):
    def test_a_new_list(self):
        tables, row = tables_of(PLUS), ["n", "plus", "n"]
        old = read(tables, row)
        told = read_again(tables, kept_ask(row)[0], 3, old, 0, 0, 0)
        self.assertEqual(told, old)
        self.assertIsNot(told, old)
        told.clear()
        self.assertEqual(old, read(tables, row))
        self.assertEqual(tables, tables_of(PLUS))


if __name__ == "__main__":
    unittest.main()
