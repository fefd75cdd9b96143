"""Promises 1, 5, 50 and 51, and over the whole program 2 to 4, 21, 26, 34, 41, 42 and 47."""

import copy
import unittest

from helping import BIG, changed, each_change, right_trees, some_changes
from regrowth.answers import Answers
from regrowth.desk import Desk
from regrowth.errors import Barren, Clash, GrowthError, Idle, NoFit, NoFloor, NoForm, NoRow, NoRule, TooLarge, TooLong
from regrowth.grammars import grammar_of
from regrowth.page import Page
from regrowth.steps import is_right
from regrowth.tables import tables_of
from test_page import all_marks, nodes_by_words, sizes
from test_marks import carried_told
from test_pieces import pieces_told
from test_states import broad_rules

GRAMMAR = """gap @+~b~n
gap =.# ^*~n
word let =.let @-~a
word name @+~a
word number @+~0
word plus =.+
word times =.*
word is =.=
word l =.(
word r =.)
word semi =.;
word lb =.{
word rb =.}
stop semi
open lb
close rb
rule line 0 none let !name is sum
rule line 1 none sum
rule sum 1 left sum plus sum
rule sum 2 left sum times sum
rule sum 3 none ?name
rule sum 3 none number
rule sum 3 none l sum r
"""
RULES = grammar_of(GRAMMAR)[1]
SIGNS = ["let ", "a", "b", "a", "1", "+", "*", "=", "(", ")", ";", "{", "}", " ", "#", "\n", "let a=", "a+1;", "?"]


def judge_of(asked):
    """A judge of small kinds, so that they hang on names and change often; keeps what it is asked."""
    def judge(rule, given, found):
        asked.append((rule, tuple(given), found))
        if rule == 0:
            return given[3]
        if rule in (1, 4):
            return (found or "none") if rule == 4 else given[0]
        if rule in (2, 3):
            return given[0] if given[0] == given[2] else "mixed"
        return "number" if rule == 5 else given[1]

    return judge


def desk_of(text="", asked=None, grammar=GRAMMAR):
    return Desk(grammar, judge_of([] if asked is None else asked), text)


def bare(desk):
    """All that the desk tells, each mark put for what bears it."""
    put_for = {word[0]: number for number, word in enumerate(desk.words())}
    for piece, (holder, rows) in enumerate(desk.sheet()):
        put_for.update({row[0]: (piece, number) for number, row in enumerate(rows)})
    sheet = [
        (holder, [(put_for[mark], rule, [(put_for[m], t) for m, t in parts]) for mark, rule, parts in rows])
        for holder, rows in desk.sheet()
    ]
    trees = [desk.tree(number) for number in range(len(desk.pieces()))]
    return desk.shown(), [word[1:] for word in desk.words()], desk.pieces(), sheet, desk.kinds(), desk.asides(), trees


def all_told(desk):
    """All that the desk tells, in lists that nobody else has."""
    return copy.deepcopy((bare(desk), desk.words(), desk.sheet(), desk.kinds(), desk.asides()))


class WrittenTest(unittest.TestCase):
    def test_a_desk(self):
        desk = desk_of("let a = 1;\nlet b = a + (2; {c * a} b")
        self.assertEqual(desk.shown(), "let a = 1;\nlet b = a + (2; {c * a} b")
        self.assertEqual(desk.pieces(), [
            (0, 4, 0, 0, -1), (5, 12, 10, 11, -1), (13, 13, 13, 13, -1), (14, 17, 14, 14, 2), (18, 19, 18, 18, -1),
        ])
        self.assertEqual(desk.asides(), ["", " (", "", "", ""])
        self.assertEqual([desk.tree(number) for number in range(5)], [
            "(line let a = (sum 1))", "(line let b = (sum (sum a) + (sum 2)))", "",
            "(line (sum (sum c) * (sum a)))", "(line (sum b))",
        ])
        self.assertEqual(desk.kinds(), [
            ["number", "number"], ["number", "number", "number", "number"], [],
            ["none", "number", "mixed", "mixed"], ["number", "number"],
        ])

    def test_no_signs(self):
        for desk in (desk_of(""), Desk(GRAMMAR, judge_of([]))):
            self.assertEqual(desk.shown(), "")
            self.assertEqual([word[1:] for word in desk.words()], [("end", "", "")])
            self.assertEqual(desk.pieces(), [(0, 0, 0, 0, -1)])
            self.assertEqual((desk.sheet(), desk.kinds(), desk.asides()), ([(-1, [])], [[]], [""]))
            self.assertEqual(desk.tree(0), "")

    def test_what_is_set_aside_with_gaps(self):
        desk = desk_of("a + # why\n  ) ( ; +")
        self.assertEqual(desk.asides(), [" + # why\n  ) (", " +"])
        self.assertEqual(desk.tree(0), "(line (sum a))")
        self.assertEqual(desk.tree(1), "")

    def test_a_number_that_no_piece_has(self):
        desk = desk_of("a;b")
        for number in (-1, 2, 3, BIG, -BIG, 10 ** 60 - 1):
            with self.subTest(number), self.assertRaises(NoFit):
                desk.tree(number)
        self.assertEqual(desk.tree(1), "(line (sum b))")

    def test_names_through_holders(self):
        desk = desk_of("let a=1;x{let b=a;b;{b}}b")
        self.assertEqual(desk.kinds(), [
            ["number", "number"], ["none", "none"], ["number", "number"], ["number", "number"], [],
            ["number", "number"], [], ["none", "none"],
        ])

    def test_kinds_of_values(self):
        desk = desk_of("a;+")
        self.assertEqual([type(told) for told in (desk.kinds(), desk.asides(), desk.tree(0))], [list, list, str])
        self.assertEqual([type(kinds) for kinds in desk.kinds()], [list, list])
        self.assertEqual([type(text) for text in desk.asides()], [str, str])
        self.assertIsNone(desk.write(0, 0, "b"))


class RefusedTest(unittest.TestCase):
    ROWS = "gap @+~b\nword n @+~a\nrule s 0 none n\n"

    def check_refused(self, error, grammar, text=""):
        asked = []
        with self.subTest(error=error):
            with self.assertRaises(GrowthError) as caught:
                Desk(grammar, judge_of(asked), text)
            self.assertIs(type(caught.exception), error)
            self.assertEqual(asked, [])

    def test_each_refusal(self):
        large = "\n".join("rule s 0 none " + " ".join(kinds) for kinds in large_rows())
        for error, row in (
            (NoRow, "foo"), (NoForm, "gap x"), (NoRule, "rule s 0 none s"), (NoFloor, "rule s 0 none s n"),
            (Barren, "rule s 0 none t\nrule t 0 left t n"), (Idle, "rule t 0 none n"), (TooLarge, large),
            (Clash, "rule s 0 none n"),
        ):
            self.check_refused(error, self.ROWS + row)
            self.check_refused(error, self.ROWS + row, "a" * 1001)
        self.check_refused(TooLong, self.ROWS, "a" * 1001)

    def test_the_order(self):
        rows = [
            (TooLarge, "\n".join("rule s 0 none " + " ".join(kinds) for kinds in large_rows()) + "\nrule s 0 none n"),
            (Idle, "rule i 0 none n"), (Barren, "rule b 0 left b n"), (NoFloor, "rule s 0 none s n"),
            (NoRule, "rule s 0 none s"), (NoRow, "rule s 0 none ?s n"), (NoForm, "word n x"), (NoRow, "foo"),
        ]
        grammar = self.ROWS
        for number, (error, row) in enumerate(rows):
            # Of a grammar's rows the first that is refused tells which, so the last one is put ahead.
            grammar = row + "\n" + grammar if number == len(rows) - 1 else grammar + row + "\n"
            self.check_refused(error, grammar, "a" * 1001)

    def test_a_grammar_without_rules(self):
        self.check_refused(NoRule, "")
        self.check_refused(NoRule, "gap =.a\nstop k")
        self.check_refused(NoRule, "rule s 0 none")
        self.check_refused(NoRule, "rule s 0 none n n n n n n n n n")
        self.check_refused(NoRule, "rule s 0 none n\n" * 25)

    def test_clash_tells_state_and_kind(self):
        with self.assertRaises(Clash) as caught:
            Desk(self.ROWS + "rule s 0 none n", judge_of([]))
        self.assertEqual((caught.exception.state, caught.exception.kind), (2, "end"))

    def test_a_thousand_signs(self):
        self.assertEqual(desk_of("a" * 1000).tree(0), "(line (sum " + "a" * 1000 + "))")

    def test_changes_that_are_refused_change_nothing(self):
        asked = []
        desk = desk_of("let a=1;a+b", asked)
        before = all_told(desk)
        asked.clear()
        long = "a" * 1000
        for error, at, gone, put in (
            (NoFit, -1, 0, "x"), (NoFit, 0, -1, "x"), (NoFit, 12, 0, "x"), (NoFit, 11, 1, "x"), (NoFit, 0, 12, ""),
            (NoFit, BIG, 0, ""), (NoFit, 0, BIG, ""), (NoFit, -BIG, BIG, "x"), (NoFit, 12, 0, long), (NoFit, -1, 0, long),
            (TooLong, 0, 0, long), (TooLong, 11, 0, long), (TooLong, 0, 11, long + "a"), (TooLong, 0, 10, long),
        ):
            with self.subTest(at=at, gone=gone):
                with self.assertRaises(GrowthError) as caught:
                    desk.write(at, gone, put)
                self.assertIs(type(caught.exception), error)
            self.assertEqual(all_told(desk), before)
        self.assertEqual(asked, [])
        desk.write(0, 11, long)
        self.assertEqual(desk.shown(), long)


def large_rows():
    """The parts of the rules of a grammar with too many states, with kinds of small letters."""
    letters = "abcdefghijklmnopqrstuvwxyz"
    rows = [rule[3] for rule in broad_rules(151)]
    return [["k" + letters[number] + letters[place] for place in range(len(row))] for number, row in enumerate(rows)]


class JudgeTest(unittest.TestCase):
    def test_asked_as_it_is_made_and_behind_each_change_and_at_no_other_time(self):
        asked = []
        desk = desk_of("a;1", asked)
        self.assertEqual(asked, [(4, ("a",), None), (1, ("none",), None), (5, ("1",), None), (1, ("number",), None)])
        asked.clear()
        bare(desk)
        self.assertEqual(asked, [])
        desk.write(0, 0, "let a=1;")
        self.assertEqual(asked, [
            (5, ("1",), None), (0, ("let", "a", "=", "number"), None), (4, ("a",), "number"), (1, ("number",), None),
        ])
        asked.clear()
        bare(desk)
        desk.write(0, 0, "")
        self.assertEqual(asked, [])

    def test_just_what_hangs_on_the_change_is_asked_again(self):
        asked = []
        desk = desk_of("let a=1;let b=a;b;c", asked)
        asked.clear()
        desk.write(4, 1, "z")
        self.assertEqual(asked, [
            (0, ("let", "z", "=", "number"), None), (4, ("a",), None), (0, ("let", "b", "=", "none"), None),
            (4, ("b",), "none"), (1, ("none",), None),
        ])

    def test_reckoned_once_for_a_change_that_tells_the_same_text(self):
        asked = []
        desk = desk_of("a;b", asked)
        asked.clear()
        desk.write(0, 1, "a")
        # The word is another one, and so are the nodes over it.
        self.assertEqual(asked, [(4, ("a",), None), (1, ("none",), None)])


class WholeTest(unittest.TestCase):
    """The promise: behind each row of changes a desk tells what a new one tells."""

    def check_right(self, desk):
        """That each tree is the one right tree of its piece, and what the desk tells holds together."""
        words = desk.words()
        self.assertEqual("".join(word[2] + word[3] for word in words), desk.shown())
        pieces = pieces_told([word[1] for word in words], [("semi", "stop"), ("lb", "open"), ("rb", "close")])
        self.assertEqual([(piece[0], piece[1], piece[4]) for piece in desk.pieces()], pieces)
        for number, (begin, end, left, right, holder) in enumerate(desk.pieces()):
            kinds = [word[1] for word in words[begin:left] + words[right:end]]
            aside = "".join(word[2] + word[3] for word in words[left:right])
            self.assertEqual(desk.asides()[number], aside)
            rows = desk.sheet()[number][1]
            steps = steps_of(rows)
            if kinds:
                self.assertTrue(is_right(RULES, steps, kinds), desk.shown())
                if len(kinds) < 8:
                    self.assertEqual(right_trees(RULES, kinds), [steps])
            else:
                self.assertEqual((rows, desk.tree(number)), ([], ""))
            self.assertEqual(len(desk.kinds()[number]), len(rows))

    def write(self, desk, at, gone, put, highest):
        """Writes; checks the marks by points 41 and 42."""
        words, nodes = desk.words(), nodes_by_words(desk)
        desk.write(at, gone, put)
        told = desk.words()
        for word, number in zip(told, carried_told(sizes(words), sizes(told), at, gone, len(put))):
            if number < 0:
                self.assertGreater(word[0], highest)
            else:
                self.assertEqual(word, words[number])
        for known_by, mark in nodes_by_words(desk).items():
            if known_by in nodes:
                self.assertEqual(mark, nodes[known_by])
            else:
                self.assertGreater(mark, highest)
        marks = all_marks(desk)
        self.assertEqual(len(set(marks)), len(marks))
        return max([highest] + marks)

    def test_every_change_of_a_text(self):
        for text, puts in (("let a=1;a+b", ["", "a", ";", "=", "+"]), ("x{a*(b}1", ["", ")", "}", "{", "#"])):
            for at, gone, put, new in each_change(text, puts):
                desk = desk_of(text)
                self.write(desk, at, gone, put, max(all_marks(desk)))
                self.assertEqual(bare(desk), bare(desk_of(new)))

    def test_changes_one_behind_another(self):
        for seed in range(30):
            asked, due = [], []
            desk = desk_of("", asked)
            # A page and answers of their own tell what is due to be asked.
            told = grammar_of(GRAMMAR)
            page, answers = Page(told[0], tables_of(told[1]), told[2]), Answers(told[3], judge_of(due))
            answers.reckon(page.sheet())
            highest, text = 1, ""
            for number, (at, gone, put, new) in enumerate(some_changes("", SIGNS, seed, 50, 60)):
                asked.clear()
                due.clear()
                highest = self.write(desk, at, gone, put, highest)
                page.change(at, gone, put)
                self.assertEqual(desk.kinds(), answers.reckon(page.sheet()))
                self.assertEqual(asked, due)
                self.assertEqual(bare(desk), bare(desk_of(new)))
                if number % 7 == 0:
                    self.check_right(desk)
                text = changed(text, at, gone, put)
                self.assertEqual(desk.shown(), text)

    def test_a_text_typed_sign_by_sign_and_taken_away_again(self):
        text = "let a=1;\n{let b = a*(2+a); b+?} # so\nb+a"
        desk = desk_of("")
        for size in range(len(text)):
            desk.write(size, 0, text[size])
            self.assertEqual(bare(desk), bare(desk_of(text[:size + 1])))
        self.check_right(desk)
        while desk.shown():
            desk.write(0, 1, "")
            self.assertEqual(bare(desk), bare(desk_of(desk.shown())))

    def test_a_long_text(self):
        text = ("let abc = (1 + 2) * x;\n{ y + abc } " * 30)[:1000]
        desk = desk_of(text)
        highest = max(all_marks(desk))
        for at, gone, put in ((999, 1, ";"), (0, 1, "x"), (500, 1, ""), (250, 300, "{{{"), (0, 0, "a" * 200), (0, 200, "")):
            highest = self.write(desk, at, gone, put, highest)
            self.assertEqual(bare(desk), bare(desk_of(desk.shown())))
        self.check_right(desk)


def steps_of(rows):
    """The steps of the tree of a piece's rows."""
    told = {}
    for mark, rule, parts in rows:
        told[mark] = [step for m, t in parts for step in (told[m] if t is None else [-1])] + [rule]
    return told[rows[-1][0]] if rows else []


class TheAskersOwnTest(unittest.TestCase):
    def test_lists_that_were_told(self):
        desk = desk_of("let a=1;a+;b")
        before = all_told(desk)
        for told in (desk.words(), desk.pieces(), desk.asides()):
            told.clear()
        kinds = desk.kinds()
        for own in kinds:
            own.append("x")
        kinds.reverse()
        sheet = desk.sheet()
        for holder, rows in sheet:
            for mark, rule, parts in rows:
                parts.clear()
            rows.clear()
        self.assertEqual(all_told(desk), before)
        desk.write(0, 0, "c;")
        self.assertEqual(bare(desk), bare(desk_of("c;let a=1;a+;b")))

    def test_a_judge_that_changes_and_keeps_its_lists(self):
        kept = []

        def judge(rule, given, found):
            kept.append(given)
            told = judge_of([])(rule, given, found)
            given.append("x")
            given.reverse()
            return told

        desk = Desk(GRAMMAR, judge, "let a=1;a+1")
        self.assertEqual(bare(desk), bare(desk_of("let a=1;a+1")))
        for given in kept:
            given.clear()
        kept.clear()
        desk.write(11, 0, "")
        self.assertEqual(kept, [])
        self.assertEqual(bare(desk), bare(desk_of("let a=1;a+1")))

    def test_two_desks_have_nothing_in_common(self):
        one, other = desk_of("a;b"), desk_of("a;b")
        before = all_told(other)
        one.write(0, 3, "1")
        self.assertEqual(all_told(other), before)


if __name__ == "__main__":
    unittest.main()
