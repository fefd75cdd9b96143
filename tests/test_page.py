"""Promises 37, 39 to 43, and of 2, 4, 5 and 31 what touches a page."""

import copy
import unittest

from helping import BIG, LISTS, SUM, changed, each_change, some_changes
from regrowth.errors import GrowthError, NoFit, TooLong
from regrowth.page import Page
from regrowth.tables import tables_of
from test_marks import carried_told
from test_words import book_of

BOOK = book_of(
    ("", "@+~b~n"), ("n", "@+~a"), ("plus", "=.+"), ("times", "=.*"), ("minus", "=.-"), ("hat", "=.^"),
    ("l", "=.("), ("r", "=.)"), ("semi", "=.;"), ("lb", "=.{"), ("rb", "=.}"),
)
ENDS = [("semi", "stop"), ("lb", "open"), ("rb", "close")]
TABLES = tables_of(SUM)
# Words that hang on what stands far behind them, so that a change makes other words of old signs.
FAR_BOOK = book_of(("", "@+~b"), ("n", "@.a =-bbb"), ("c", "=.a =>bbb"), ("l", "=.("), ("r", "=.)"), ("semi", "@.b;"))
FAR_TABLES = tables_of(LISTS)


def page_of(text="", book=BOOK, tables=TABLES, ends=ENDS):
    return Page(book, tables, ends, text)


def all_marks(page):
    return [word[0] for word in page.words()] + [row[0] for holder, rows in page.sheet() for row in rows]


def bare(page):
    """What the page tells, each mark put for what bears it: a word's number, or a row's piece and number."""
    put_for = {word[0]: number for number, word in enumerate(page.words())}
    for piece, (holder, rows) in enumerate(page.sheet()):
        put_for.update({row[0]: (piece, number) for number, row in enumerate(rows)})
    sheet = [
        (holder, [(put_for[mark], rule, [(put_for[m], t) for m, t in parts]) for mark, rule, parts in rows])
        for holder, rows in page.sheet()
    ]
    return page.shown(), [word[1:] for word in page.words()], page.pieces(), sheet


def nodes_by_words(page):
    """For each node the rule and the marks of its words, with its mark."""
    told = {}
    for holder, rows in page.sheet():
        over = {}
        for mark, rule, parts in rows:
            over[mark] = ()
            for part_mark, text in parts:
                over[mark] += over[part_mark] if text is None else (part_mark,)
            told[rule, over[mark]] = mark
    return told


def sizes(words):
    return [(kind, len(gap), len(text), 1) for mark, kind, gap, text in words]


class NewPageTest(unittest.TestCase):
    def check(self, text, words, pieces, sheet):
        told = bare(page_of(text))
        self.assertEqual(told, (text, words, pieces, sheet))

    def test_no_signs(self):
        self.check("", [("end", "", "")], [(0, 0, 0, 0, -1)], [(-1, [])])
        self.assertEqual(bare(Page(BOOK, TABLES, ENDS)), bare(page_of("")))

    def test_words_pieces_and_sheet(self):
        self.check(
            " a+ b;\nc{}",
            [
                ("n", " ", "a"), ("plus", "", "+"), ("n", " ", "b"), ("semi", "", ";"), ("n", "\n", "c"),
                ("lb", "", "{"), ("rb", "", "}"), ("end", "", ""),
            ],
            [(0, 3, 0, 0, -1), (4, 5, 4, 4, -1), (6, 6, 6, 6, 1), (7, 7, 7, 7, -1)],
            [
                (-1, [
                    ((0, 0), 4, [(0, "a")]), ((0, 1), 4, [(2, "b")]),
                    ((0, 2), 0, [((0, 0), None), (1, "+"), ((0, 1), None)]),
                ]),
                (-1, [((1, 0), 4, [(4, "c")])]), (1, []), (-1, []),
            ],
        )

    def test_what_is_set_aside(self):
        self.check(
            "a; b + ) * c",
            [
                ("n", "", "a"), ("semi", "", ";"), ("n", " ", "b"), ("plus", " ", "+"), ("r", " ", ")"),
                ("times", " ", "*"), ("n", " ", "c"), ("end", "", ""),
            ],
            [(0, 1, 0, 0, -1), (2, 7, 3, 5, -1)],
            [
                (-1, [((0, 0), 4, [(0, "a")])]),
                (-1, [
                    ((1, 0), 4, [(2, "b")]), ((1, 1), 4, [(6, "c")]),
                    ((1, 2), 1, [((1, 0), None), (5, "*"), ((1, 1), None)]),
                ]),
            ],
        )

    def test_a_piece_in_which_nothing_is_read(self):
        told = page_of("a;+ +;b")
        self.assertEqual(told.pieces(), [(0, 1, 0, 0, -1), (2, 4, 2, 4, -1), (5, 6, 5, 5, -1)])
        self.assertEqual(told.sheet()[1], (-1, []))
        self.assertEqual(page_of(";?").pieces(), [(0, 0, 0, 0, -1), (1, 2, 1, 2, -1)])

    def test_a_piece_of_more_than_forty_words(self):
        self.assertEqual(page_of("a+" * 20).pieces(), [(0, 40, 39, 40, -1)])
        self.assertEqual(page_of("a+" * 21).pieces(), [(0, 42, 0, 42, -1)])
        self.assertEqual(page_of("a+" * 21 + "a").pieces(), [(0, 43, 0, 0, -1)])

    def test_holders(self):
        page = page_of("a{b;c{d}}e}f")
        self.assertEqual([piece[4] for piece in page.pieces()], [-1, 0, 0, 2, 0, -1, -1])
        self.assertEqual([entry[0] for entry in page.sheet()], [-1, 0, 0, 2, 0, -1, -1])

    def test_the_last_row_is_the_top(self):
        rows = page_of("(a+b)*c").sheet()[0][1]
        self.assertEqual(rows[-1][1], 1)
        inner = {mark for mark, rule, parts in rows for m, t in parts for mark in [m] if t is None}
        self.assertEqual({row[0] for row in rows} - inner, {rows[-1][0]})

    def test_a_book_and_ends_without_anything(self):
        page = page_of("ab", [], TABLES, [])
        self.assertEqual(bare(page), ("ab", [("stray", "", "a"), ("stray", "", "b"), ("end", "", "")], [(0, 2, 0, 2, -1)], [(-1, [])]))

    def test_kinds_of_values(self):
        page = page_of("a+b;")
        self.assertIs(type(page.shown()), str)
        self.assertEqual([type(told) for told in (page.words(), page.pieces(), page.sheet())], [list] * 3)
        for word in page.words():
            self.assertEqual([type(thing) for thing in (word,) + word], [tuple, int, str, str, str])
        for piece in page.pieces():
            self.assertEqual([type(thing) for thing in (piece,) + piece], [tuple] + [int] * 5)
        for entry in page.sheet():
            self.assertEqual([type(thing) for thing in (entry,) + entry], [tuple, int, list])
            for row in entry[1]:
                self.assertEqual([type(thing) for thing in (row,) + row], [tuple, int, int, list])
                self.assertEqual({type(part) for part in row[2]}, {tuple})

    def test_marks_from_one_on_no_two_alike(self):
        marks = all_marks(page_of("a + b; c{-d^e} f"))
        self.assertEqual(len(set(marks)), len(marks))
        self.assertGreaterEqual(min(marks), 1)


class ChangeTest(unittest.TestCase):
    def change(self, page, at, gone, put, highest):
        """Changes the page; checks all that is promised of it; tells the highest mark borne so far."""
        text, words, nodes = page.shown(), page.words(), nodes_by_words(page)
        self.assertIsNone(page.change(at, gone, put))
        new_text = changed(text, at, gone, put)
        self.assertEqual(page.shown(), new_text)
        told = page.words()
        if "".join(word[2] + word[3] for word in told) != new_text:
            self.fail((text, at, gone, put))
        marks = all_marks(page)
        self.assertEqual(len(set(marks)), len(marks))
        expected = carried_told(sizes(words), sizes(told), at, gone, len(put))
        for word, number in zip(told, expected):
            if number < 0:
                self.assertGreater(word[0], highest, (text, at, gone, put))
            else:
                self.assertEqual(word, words[number], (text, at, gone, put))
        for known_by, mark in nodes_by_words(page).items():
            if known_by in nodes:
                self.assertEqual(mark, nodes[known_by], (text, at, gone, put))
            else:
                self.assertGreater(mark, highest, (text, at, gone, put))
        return max([highest] + marks)

    def check_same_as_new(self, page, like):
        self.assertEqual(bare(page), bare(like))

    def kept(self, text, at, gone, put):
        """The old texts of words, and the old rules of nodes, that keep their marks."""
        page = page_of(text)
        words = {word[0]: word[3] for word in page.words()}
        nodes = {row[0]: row[1] for holder, rows in page.sheet() for row in rows}
        self.change(page, at, gone, put, max(all_marks(page)))
        self.check_same_as_new(page, page_of(changed(text, at, gone, put)))
        return (
            [words[word[0]] for word in page.words() if word[0] in words],
            [nodes[row[0]] for holder, rows in page.sheet() for row in rows if row[0] in nodes],
        )

    def test_nothing_gone_and_nothing_come(self):
        self.assertEqual(self.kept("ab+cd", 2, 0, ""), (["ab", "+", "cd", ""], [4, 4, 0]))
        self.assertEqual(self.kept("ab+cd", 1, 0, ""), (["+", "cd", ""], [4]))
        self.assertEqual(self.kept("", 0, 0, ""), ([""], []))

    def test_the_same_signs_put_again(self):
        self.assertEqual(self.kept("ab+cd", 2, 1, "+"), (["ab", "cd", ""], [4, 4]))
        self.assertEqual(self.kept("ab+cd;e", 3, 2, "cd"), (["ab", "+", ";", "e", ""], [4, 4]))

    def test_at_a_words_begin_at_its_end_and_within_it(self):
        self.assertEqual(self.kept("ab+cd", 3, 0, "x"), (["ab", "+", ""], [4]))
        self.assertEqual(self.kept("ab+cd", 2, 0, "x"), (["+", "cd", ""], [4]))
        self.assertEqual(self.kept("ab+cd", 1, 0, "x"), (["+", "cd", ""], [4]))
        # Of the two signs between the first is set aside, so the old sum is not there.
        self.assertEqual(self.kept("ab+cd", 3, 0, "*"), (["ab", "+", "cd", ""], [4, 4]))

    def test_a_node_that_comes_in_another_tree(self):
        # The sum stands over the same words, though now within brackets or another sum.
        self.assertEqual(self.kept("a+b", 3, 0, "+c"), (["a", "+", "b", ""], [4, 4, 0]))
        self.assertEqual(self.kept("a+b", 0, 0, "c;"), (["a", "+", "b", ""], [4, 4, 0]))
        self.assertEqual(self.kept("(a+b)*c", 5, 0, "^c"), (["(", "a", "+", "b", ")", "*", "c", ""], [4, 4, 0, 5, 4]))
        self.assertEqual(self.kept("a+b*c", 3, 2, ""), (["a", "+", "b", ""], [4, 4]))
        self.assertEqual(self.kept("a+b+c", 1, 0, "*d"), (["a", "+", "b", "+", "c", ""], [4, 4, 4]))

    def test_a_node_whose_words_were_parted_by_words_set_aside(self):
        self.assertEqual(self.kept("a+b", 1, 0, ")"), (["a", "+", "b", ""], [4, 4, 0]))
        self.assertEqual(self.kept("a)+b", 1, 1, ""), (["a", "+", "b", ""], [4, 4, 0]))

    def test_pieces_parted_and_joined(self):
        self.assertEqual(self.kept("a+b*c", 1, 1, ";"), (["a", "b", "*", "c", ""], [4, 4, 4, 1]))
        self.assertEqual(self.kept("a;b*c", 1, 1, "+"), (["a", "b", "*", "c", ""], [4, 4, 4, 1]))

    def test_a_mark_that_went_does_not_come_again(self):
        page = page_of("a+b")
        highest = max(all_marks(page))
        before = set(all_marks(page))
        highest = self.change(page, 0, 3, "", highest)
        gone = before - set(all_marks(page))
        highest = self.change(page, 0, 0, "a+b", highest)
        self.assertEqual(gone & set(all_marks(page)), set())

    def test_every_change_of_short_texts(self):
        for text, puts in (
            ("a+b;c", ["", "a", "+", ";", "a+"]), ("-a^(b*c)", ["", "b", ")", "*", ";"]), ("x{a;b}c", ["", "}", "{", "a "]),
            ("a  +\nb", ["", " ", "a", "+"]),
        ):
            for at, gone, put, new in each_change(text, puts):
                page = page_of(text)
                self.change(page, at, gone, put, max(all_marks(page)))
                self.check_same_as_new(page, page_of(new))

    def test_changes_one_behind_another(self):
        for seed in range(25):
            page = page_of("")
            highest = 1
            for at, gone, put, new in some_changes("", "aab+*^-();{} ", seed, 60, 30):
                highest = self.change(page, at, gone, put, highest)
                self.check_same_as_new(page, page_of(new))

    def test_changes_of_a_text_whose_words_look_far(self):
        def new_page(text):
            return page_of(text, FAR_BOOK, FAR_TABLES, [("semi", "stop")])

        for seed in range(25):
            page = new_page("")
            highest = 1
            for at, gone, put, new in some_changes("", "aaab;() ", seed, 60, 24):
                highest = self.change(page, at, gone, put, highest)
                self.check_same_as_new(page, new_page(new))

    def test_a_long_text(self):
        text = "alpha + beta * (c - d);\n" * 41
        page = page_of(text)
        highest = max(all_marks(page))
        for at, gone, put in ((500, 0, "x"), (0, 24, ""), (300, 100, "{"), (300, 1, "}"), (0, 0, "a;" * 50), (10, 4, "zz")):
            highest = self.change(page, at, gone, put, highest)
            self.check_same_as_new(page, page_of(page.shown()))


class RefusedTest(unittest.TestCase):
    def check_refused(self, error, page, at, gone, put):
        before = copy.deepcopy((page.shown(), page.words(), page.pieces(), page.sheet()))
        with self.subTest(at=at, gone=gone):
            with self.assertRaises(GrowthError) as caught:
                page.change(at, gone, put)
            self.assertIs(type(caught.exception), error)
        self.assertEqual((page.shown(), page.words(), page.pieces(), page.sheet()), before)

    def test_too_long_as_it_is_made(self):
        self.assertEqual(page_of("a" * 1000).shown(), "a" * 1000)
        for size in (1001, 1002, 5000):
            with self.assertRaises(TooLong):
                page_of("a" * size)
            with self.assertRaises(TooLong):
                page_of(" " * size)

    def test_too_long_by_a_change(self):
        page = page_of("a" * 998)
        self.check_refused(TooLong, page, 0, 0, "bbb")
        self.check_refused(TooLong, page, 998, 0, "bbb")
        self.check_refused(TooLong, page, 500, 1, "bbbb")
        self.check_refused(TooLong, page, 0, 998, "b" * 1001)
        self.assertIsNone(page.change(998, 0, "bb"))
        self.check_refused(TooLong, page, 0, 0, "c")
        self.assertIsNone(page.change(0, 1, "c"))
        self.assertIsNone(page.change(0, 1000, "d" * 1000))
        self.assertEqual(page.shown(), "d" * 1000)

    def test_no_fit(self):
        for text in ("a+b", "", "a" * 1000):
            page = page_of(text)
            size = len(text)
            for at, gone in (
                (-1, 0), (-1, 1), (0, -1), (size, -1), (-1, -1), (size + 1, 0), (size, 1), (0, size + 1), (size + 1, -1),
                (-BIG, 0), (0, -BIG), (BIG, 0), (0, BIG), (BIG, BIG), (-BIG, BIG), (BIG, -BIG), (10 ** 60 - 1, 0),
            ):
                for put in ("", "x"):
                    self.check_refused(NoFit, page, at, gone, put)

    def test_no_fit_ahead_of_too_long(self):
        page = page_of("a" * 1000)
        self.check_refused(NoFit, page, 1001, 0, "b" * 10)
        self.check_refused(NoFit, page, -1, 0, "b" * 10)
        self.check_refused(NoFit, page, 0, -1, "")
        self.check_refused(NoFit, page, 0, 1001, "b" * 1001)
        self.check_refused(TooLong, page, 0, 0, "b" * 10)

    def test_what_is_refused_gives_no_marks(self):
        # A page that was refused in between bears the marks of one that was not.
        one, other = page_of("a+b"), page_of("a+b")
        self.check_refused(NoFit, one, 4, 0, "xyz")
        self.check_refused(TooLong, one, 0, 0, "x;" * 1000)
        for page in (one, other):
            page.change(1, 0, "*c")
        self.assertEqual((one.words(), one.sheet()), (other.words(), other.sheet()))


class TheAskersOwnTest(unittest.TestCase):
    def told(self, page):
        """All that the page tells, in lists that nobody else has."""
        return copy.deepcopy((page.shown(), page.words(), page.pieces(), page.sheet()))

    def test_lists_that_were_told(self):
        page = page_of("a+b;c{d}")
        before = self.told(page)
        words, pieces, sheet = page.words(), page.pieces(), page.sheet()
        for holder, rows in sheet:
            for mark, rule, parts in rows:
                parts.clear()
                parts.append((1, "x"))
            rows.reverse()
            rows.append((1, 1, []))
        sheet.pop()
        words.clear()
        pieces.append((0, 0, 0, 0, 0))
        self.assertEqual(self.told(page), before)
        page.change(1, 0, "*z")
        self.assertEqual(bare(page), bare(page_of("a*z+b;c{d}")))

    def test_lists_that_were_handed_in(self):
        book = [(kind, list(form)) for kind, form in BOOK]
        tables, ends = tables_of(SUM), list(ENDS)
        page = Page(book, tables, ends, "a+b;c")
        self.assertEqual((book, tables, ends), (BOOK, tables_of(SUM), ENDS))
        for kind, form in book:
            form.clear()
        book.clear()
        ends.clear()
        for states in tables[1:]:
            for state in states:
                state.clear()
            states.clear()
        tables[0].clear()
        page.change(5, 0, ";d*e+")
        self.assertEqual(bare(page), bare(page_of("a+b;c;d*e+")))

    def test_two_pages_have_nothing_in_common(self):
        one, other = page_of("a+b"), page_of("a+b")
        before = self.told(other)
        one.change(0, 3, "c;d")
        self.assertEqual(self.told(other), before)
        self.assertEqual(bare(one), bare(page_of("c;d")))

    def test_what_was_told_earlier_stays(self):
        page = page_of("a+b")
        words, pieces, sheet = page.words(), page.pieces(), page.sheet()
        copies = (list(words), list(pieces), [(holder, [(m, r, list(p)) for m, r, p in rows]) for holder, rows in sheet])
        page.change(0, 3, "c;d")
        self.assertEqual((words, pieces, sheet), copies)


if __name__ == "__main__":
    unittest.main()
