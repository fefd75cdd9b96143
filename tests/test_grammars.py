"""Promises 48 and 49: grammars as texts."""

import unittest

from regrowth.errors import GrowthError, NoForm, NoRow
from regrowth.forms import form_of
from regrowth.grammars import grammar_of

GRAMMAR = """gap @+~b~n
word name @.~a @*~a~0
word plus =.+
word is ==
word number @+~0

stop semi
word semi =.;
open lb
close rb
rule line 0 none !name is sum
rule line 99 none sum
rule sum 1 left sum plus sum
rule sum 20 none ?name
rule sum 20 none number
""".replace("==", "=.=")


class ReadTest(unittest.TestCase):
    def check(self, text, book=(), rules=(), ends=(), notes=()):
        with self.subTest(text=text):
            told = grammar_of(text)
            self.assertEqual(told, (list(book), list(rules), list(ends), list(notes)))

    def test_a_grammar(self):
        self.check(
            GRAMMAR,
            [
                ("", form_of("@+~b~n")), ("name", form_of("@.~a @*~a~0")), ("plus", form_of("=.+")),
                ("is", form_of("=.=")), ("number", form_of("@+~0")), ("semi", form_of("=.;")),
            ],
            [
                ("line", 0, "none", ("name", "is", "sum")), ("line", 99, "none", ("sum",)),
                ("sum", 1, "left", ("sum", "plus", "sum")), ("sum", 20, "none", ("name",)),
                ("sum", 20, "none", ("number",)),
            ],
            [("semi", "stop"), ("lb", "open"), ("rb", "close")],
            [(-1, 0), (-1, -1), (-1, -1), (0, -1), (-1, -1)],
        )

    def test_rows_without_signs(self):
        self.check("")
        self.check("\n")
        self.check("\n\n\nstop a\n\n", ends=[("a", "stop")])

    def test_each_sort_of_row(self):
        self.check("gap =.a", book=[("", [("row", "a", "once")])])
        self.check("gap =.a @*b ^-c", book=[("", form_of("=.a @*b ^-c"))])
        self.check("word k =.a", book=[("k", [("row", "a", "once")])])
        self.check("word k =.a =.b", book=[("k", form_of("=.a =.b"))])
        for deed in ("stop", "open", "close"):
            self.check(deed + " k", ends=[("k", deed)])
        self.check("rule s 0 none k", rules=[("s", 0, "none", ("k",))], notes=[(-1, -1)])

    def test_the_order_of_rows(self):
        self.check(
            "word b =.b\ngap =.a\nword a =.a\nword b =.c", book=[
                ("b", form_of("=.b")), ("", form_of("=.a")), ("a", form_of("=.a")), ("b", form_of("=.c")),
            ],
        )
        self.check("open z\nstop a\nclose m", ends=[("z", "open"), ("a", "stop"), ("m", "close")])

    def test_names(self):
        for name in ("a", "z", "abcdefghijkl", "gap", "word", "rule", "stop", "left", "ends", "strays", "en", "stra"):
            self.check(f"stop {name}", ends=[(name, "stop")])
            self.check(f"word {name} =.a", book=[(name, form_of("=.a"))])
            self.check(f"rule {name} 0 none {name} x", rules=[(name, 0, "none", (name, "x"))], notes=[(-1, -1)])

    def test_ranks(self):
        for rank in (0, 1, 9, 10, 42, 99):
            self.check(f"rule s {rank} none k", rules=[("s", rank, "none", ("k",))], notes=[(-1, -1)])

    def test_sides(self):
        for side in ("left", "right", "none"):
            self.check(f"rule s 0 {side} k", rules=[("s", 0, side, ("k",))], notes=[(-1, -1)])

    def test_any_number_of_parts(self):
        for many in (0, 1, 8, 9, 30):
            self.check("rule s 0 none" + " k" * many, rules=[("s", 0, "none", ("k",) * many)], notes=[(-1, -1)])

    def test_any_number_of_rules(self):
        self.check("rule s 0 none k\n" * 40, rules=[("s", 0, "none", ("k",))] * 40, notes=[(-1, -1)] * 40)

    def test_what_no_grammar_may_have_is_read_all_the_same(self):
        self.check("rule s 0 none s", rules=[("s", 0, "none", ("s",))], notes=[(-1, -1)])

    def test_notes(self):
        for row, parts, note in (
            ("?a b", ("a", "b"), (0, -1)), ("a ?b", ("a", "b"), (1, -1)), ("!a b", ("a", "b"), (-1, 0)),
            ("a !b", ("a", "b"), (-1, 1)), ("?a !b", ("a", "b"), (0, 1)), ("!a ?a", ("a", "a"), (1, 0)),
            ("s ?a s !b", ("s", "a", "s", "b"), (1, 3)),
        ):
            self.check(f"rule s 0 none {row}", rules=[("s", 0, "none", parts)], notes=[note])

    def test_twenty_four_forms_and_ends(self):
        text = "gap =.a\nword k =.b\n" * 12
        self.check(text, book=[("", form_of("=.a")), ("k", form_of("=.b"))] * 12)
        letters = "abcdefghijklmnopqrstuvwx"
        self.check("\n".join("stop " + letter for letter in letters), ends=[(letter, "stop") for letter in letters])

    def test_kinds_of_values(self):
        told = grammar_of(GRAMMAR)
        self.assertEqual([type(thing) for thing in (told,) + told], [tuple, list, list, list, list])
        for kind, form in told[0]:
            self.assertEqual([type(kind), type(form)], [str, list])
        for rule in told[1]:
            self.assertEqual([type(thing) for thing in (rule,) + rule], [tuple, str, int, str, tuple])
        for thing in told[0] + told[2] + told[3]:
            self.assertIs(type(thing), tuple)

    def test_the_askers_own(self):
        told, again = grammar_of(GRAMMAR), grammar_of(GRAMMAR)
        for kind, form in told[0]:
            form.clear()
        for thing in told:
            thing.clear()
        self.assertEqual(grammar_of(GRAMMAR), again)


class RefusedTest(unittest.TestCase):
    def check_refused(self, error, *texts):
        for text in texts:
            with self.subTest(text=text):
                with self.assertRaises(GrowthError) as caught:
                    grammar_of(text)
                self.assertIs(type(caught.exception), error)

    def check_row(self, *rows):
        """That each row is refused wherever it stands."""
        for row in rows:
            self.check_refused(NoRow, row, "stop ok\n" + row, row + "\nstop ok\n", "\n\n" + row + "\n")

    def test_another_row(self):
        self.check_row("x", "gaps =.a", "Gap =.a", "words k =.a", "stops k", "rules s 0 none k", "k", "#", "none", "=.a")

    def test_blanks(self):
        self.check_row(" ", "  ", " stop k", "stop k ", "stop  k", " gap =.a", "gap =.a ", "gap  =.a", "gap =.a  =.b")
        self.check_row("word  k =.a", "word k  =.a", "word k =.a ", "rule s 0 none k ", "rule s 0  none k", "rule s 0 none k  k")

    def test_too_few_words(self):
        self.check_row("gap", "word", "word k", "stop", "open", "close", "rule", "rule s", "rule s 0")

    def test_too_many_words(self):
        self.check_row("stop k l", "open k =.a", "close k k")

    def test_names(self):
        for name in ("end", "stray", "abcdefghijklm", "A", "aB", "a1", "a_b", "1", "a-b", "?a", "!a", "~", "a;"):
            self.check_row(f"stop {name}", f"open {name}", f"close {name}", f"word {name} =.a", f"rule {name} 0 none k")
        for name in ("end", "stray", "abcdefghijklm", "A", "aB", "a1", "a_b", "1", "a-b", "??a", "!!a", "?!a", "!?a", "?", "!"):
            self.check_row(f"rule s 0 none {name}", f"rule s 0 none k {name}", f"rule s 0 none {name} k")
        self.check_row("rule s 0 none ?end", "rule s 0 none !stray", "rule s 0 none ?abcdefghijklm", "rule s 0 none a?")

    def test_ranks(self):
        for rank in ("00", "01", "09", "100", "-1", "+1", "1.", "a", "1a", "", "000", "999", "1_0", "?1"):
            self.check_row(f"rule s {rank} none k")

    def test_sides(self):
        for side in ("Left", "both", "no", "l", "0", "nonee", "?left"):
            self.check_row(f"rule s 0 {side} k", f"rule s 0 {side}")

    def test_a_sign_twice_in_a_rule(self):
        self.check_row("rule s 0 none ?a ?b", "rule s 0 none !a !b", "rule s 0 none ?a x ?a", "rule s 0 none !a ?b !a")

    def test_an_end_told_again(self):
        self.check_row("stop k\nstop k", "stop k\nopen k", "open k\nstop l\nclose k")

    def test_the_twenty_fifth_form(self):
        self.check_row("gap =.a\n" * 24 + "gap =.a", "word k =.a\n" * 24 + "gap =.a", "gap =.a\nword k =.b\n" * 12 + "word k =.a")

    def test_the_twenty_fifth_end(self):
        letters = "abcdefghijklmnopqrstuvwxy"
        self.check_refused(NoRow, "\n".join("stop " + letter for letter in letters))
        self.check_refused(NoRow, "\n".join("close " + letter for letter in letters) + "\n")

    def test_no_form(self):
        for form in ("x", "=", "=.", "=+a", "@.~x", "@.~", "=.a x", "=.a @", "@.a " * 12 + "@.a", "@." + "a" * 101):
            self.check_refused(NoForm, f"gap {form}", f"word k {form}", f"stop a\nword k {form}\nstop b")

    def test_the_first_row_tells_which(self):
        self.check_refused(NoForm, "gap x\nfoo", "stop a\nword k x\nstop a")
        self.check_refused(NoRow, "foo\ngap x", "stop a\nstop a\nword k x")

    def test_in_one_row_no_row_goes_first(self):
        self.check_refused(NoRow, "word end x", "word K x", "gap  x", "gap x ", "word k  x", "word k =.  x")
        self.check_refused(NoRow, "gap =.a\n" * 24 + "gap x", "gap =.a\n" * 24 + "word k x")
        self.check_refused(NoForm, "gap =.a\n" * 23 + "gap x\ngap =.a\ngap =.a")

    def test_a_part_with_a_sign_that_is_a_sort(self):
        self.check_refused(
            NoRow, "rule s 0 none ?s k", "rule s 0 none k !s", "rule s 0 none ?t\nrule t 0 none k",
            "rule t 0 none k\nrule s 0 none !t", "rule s 0 none k !t x\nrule t 0 none k",
        )

    def test_that_goes_behind_all_rows(self):
        self.check_refused(NoForm, "rule s 0 none ?s k\ngap x", "gap x\nrule s 0 none ?s k")
        self.check_refused(NoRow, "rule s 0 none ?s k\nfoo")

    def test_a_sort_without_a_sign_beside_a_signed_kind(self):
        told = grammar_of("rule s 0 none ?k s !l")
        self.assertEqual(told[3], [(0, 2)])

    def test_another_sort_of_row_is_not_parted_otherwise(self):
        self.check_row("stop\tk", "stop k\r", "stop k\x0bstop l", "stop\x0ck", "stop k\x1estop l", "stop k\u2028stop l")


if __name__ == "__main__":
    unittest.main()
