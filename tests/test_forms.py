"""Promises 6 and 7: forms, written and read."""

import string
import unittest

from regrowth.errors import NoForm
from regrowth.forms import form_of, form_text

DEEDS = {"in": "@", "out": "^", "row": "="}
MANIES = {"once": ".", "maybe": "?", "some": "+", "any": "*", "ahead": ">", "not": "-"}
ROW_MANIES = ("once", "ahead", "not")
# Every sign that a text may have.
TEXT_SIGNS = "".join(chr(k) for k in range(32, 127) if chr(k) != "%") + "\n"


def pairs():
    """Each deed with each many that it may have."""
    return [(d, m) for d in DEEDS for m in MANIES if d != "row" or m in ROW_MANIES]


class WrittenAndReadTest(unittest.TestCase):
    def check_both(self, form, text):
        self.assertEqual(form_text(form), text)
        self.assertEqual(form_of(text), form)

    def test_each_deed_with_each_many(self):
        self.assertEqual(len(pairs()), 15)
        for deed, many in pairs():
            with self.subTest(deed=deed, many=many):
                self.check_both([(deed, "xyz", many)], DEEDS[deed] + MANIES[many] + "xyz")

    def test_parts_stand_in_their_order_with_one_blank_between(self):
        form = [("in", "ab", "some"), ("row", "cd", "once"), ("out", "ab", "not")]
        self.check_both(form, "@+ab =.cd ^-ab")

    def test_blank_line_end_and_tilde(self):
        for sign, written in ((" ", "~b"), ("\n", "~n"), ("~", "~t")):
            for deed, many in pairs():
                with self.subTest(sign=sign, deed=deed, many=many):
                    head = DEEDS[deed] + MANIES[many]
                    self.check_both([(deed, sign, many)], head + written)
                    signs = "a" + sign + sign + "b"
                    self.check_both([(deed, signs, many)], f"{head}a{written}{written}b")

    def test_what_stands_behind_an_escape_is_as_it_is(self):
        self.check_both([("row", "~b", "once")], "=.~tb")
        self.check_both([("row", "~t~", "once")], "=.~tt~t")
        self.check_both([("row", " b\nn~t", "once")], "=.~bb~nn~tt")
        self.assertEqual(form_of("=.~00"), [("row", "01234567890", "once")])

    def test_the_signs_of_deeds_and_manies_are_signs_too(self):
        self.check_both([("in", "@^=.?+*>-", "any")], "@*@^=.?+*>-")
        self.check_both([("row", "@.", "once")], "=.@.")

    def test_every_sign_of_a_text(self):
        for sign in TEXT_SIGNS:
            for deed, many in pairs():
                form = [(deed, sign, many)]
                self.assertEqual(form_of(form_text(form)), form)
        self.assertEqual(len(TEXT_SIGNS), 95)
        form = [("out", TEXT_SIGNS, "some")]
        self.assertEqual(form_of(form_text(form)), form)

    def test_signs_keep_their_order_and_stand_as_often_as_written(self):
        self.check_both([("in", "cabbac", "once")], "@.cabbac")

    def test_letters_and_figures_are_written_out_in_their_order(self):
        for short, signs in (
            ("~a", string.ascii_lowercase), ("~A", string.ascii_uppercase), ("~0", string.digits),
        ):
            for deed, many in pairs():
                with self.subTest(short=short, deed=deed, many=many):
                    head = DEEDS[deed] + MANIES[many]
                    self.assertEqual(form_of(head + short), [(deed, signs, many)])
                    self.assertEqual(form_text([(deed, signs, many)]), head + signs)

    def test_letters_and_figures_among_others(self):
        signs = "_" + string.digits + string.ascii_uppercase + string.ascii_lowercase + " a"
        self.assertEqual(form_of("@*_~0~A~a~ba"), [("in", signs, "any")])
        self.assertEqual(form_of("@*~0~0"), [("in", string.digits * 2, "any")])

    def test_one_and_twelve_parts(self):
        self.check_both([("in", "a", "once")], "@.a")
        self.check_both([("in", "a", "once")] * 12, " ".join(["@.a"] * 12))

    def test_one_and_a_hundred_signs(self):
        for deed, many in pairs():
            with self.subTest(deed=deed, many=many):
                head = DEEDS[deed] + MANIES[many]
                self.check_both([(deed, "q", many)], head + "q")
                self.check_both([(deed, "q" * 100, many)], head + "q" * 100)
                self.check_both([(deed, "~" * 100, many)], head + "~t" * 100)

    def test_a_hundred_signs_written_out(self):
        full = string.ascii_lowercase + string.ascii_uppercase + string.digits
        self.assertEqual(form_of("@.~a~A~0~a" + "x" * 12), [("in", full + string.ascii_lowercase + "x" * 12, "once")])
        self.assertEqual(form_of("=>" + "~0" * 10), [("row", string.digits * 10, "ahead")])

    def test_the_largest_form(self):
        form = [("out", "~" * 100, "any")] * 12
        self.check_both(form, " ".join(["^*" + "~t" * 100] * 12))


class TheAskersOwnTest(unittest.TestCase):
    def test_a_list_of_tuples_of_three_texts(self):
        form = form_of("@+~a =.x ^-~n")
        self.assertIs(type(form), list)
        for part in form:
            self.assertIs(type(part), tuple)
            self.assertEqual([type(thing) for thing in part], [str, str, str])
        self.assertIs(type(form_text(form)), str)

    def test_each_form_told_is_a_new_list(self):
        first = form_of("@.a =.b")
        second = form_of("@.a =.b")
        self.assertIsNot(first, second)
        first.clear()
        self.assertEqual(second, [("in", "a", "once"), ("row", "b", "once")])
        self.assertEqual(form_of("@.a =.b"), second)

    def test_the_form_handed_in_stays(self):
        form = [("in", " ~\n", "some"), ("row", "if", "ahead")]
        form_text(form)
        self.assertEqual(form, [("in", " ~\n", "some"), ("row", "if", "ahead")])


class NoFormTest(unittest.TestCase):
    def check_refused(self, *texts):
        for text in texts:
            with self.subTest(text), self.assertRaises(NoForm):
                form_of(text)

    def test_the_text_without_signs(self):
        self.check_refused("")

    def test_thirteen_parts(self):
        self.check_refused(" ".join(["@.a"] * 13), " ".join(["@.a"] * 500))

    def test_a_blank_too_many(self):
        self.check_refused(" ", "  ", " @.a", "@.a ", "@.a  =.b", "  @.a", "@.a  ", " @.a =.b", "@.a =.b ")

    def test_a_blank_within_a_part(self):
        self.check_refused("@ .a", "@. a", "@.a b", "@. ")

    def test_another_first_sign(self):
        for sign in TEXT_SIGNS:
            if sign not in "@^=":
                self.check_refused(sign + ".a", sign + "+a", "@.a " + sign + ".a")

    def test_another_second_sign(self):
        for sign in TEXT_SIGNS:
            if sign not in ".?+*>-":
                self.check_refused("@" + sign + "a", "^" + sign + "a", "=" + sign + "a")

    def test_the_two_first_signs_turned_round(self):
        self.check_refused(".@a", "+^a", ".=a")

    def test_a_row_of_another_many(self):
        self.check_refused("=?a", "=+a", "=*a", "=?ab", "=+ab", "=*ab", "@.a =?b", "=*b =.a")

    def test_no_signs(self):
        self.check_refused("@", "^", "=", "@.a @")
        for deed, many in pairs():
            head = DEEDS[deed] + MANIES[many]
            self.check_refused(head, head + " @.a", "@.a " + head)

    def test_too_many_signs(self):
        for deed, many in pairs():
            head = DEEDS[deed] + MANIES[many]
            self.check_refused(head + "q" * 101, head + "~t" * 101, head + "~b" * 101)

    def test_too_many_signs_written_out(self):
        self.check_refused("@." + "~0" * 10 + "x", "@.~a~a~a~a", "@.~A~A~A~A", "@.~a~A~0~a" + "x" * 13)

    def test_another_sign_behind_the_tilde(self):
        for sign in TEXT_SIGNS:
            if sign not in "bntaA0":
                self.check_refused("@.~" + sign, "=.x~" + sign + "y", "^+~" + sign + "b")

    def test_no_sign_behind_the_tilde(self):
        self.check_refused("@.~", "@.a~", "=.~b~", "@.~ @.a", "@.~t~")

    def test_a_line_end(self):
        self.check_refused("\n", "@.\n", "@.a\n", "\n@.a", "@.a\n@.b", "@\n.a", "@.~\n")

    def test_the_percent_sign(self):
        self.check_refused("%", "@.%", "^*a%b", "@%a", "%.a", "@.a =.%", "@.~%")

    def test_a_sign_that_is_not_one_from_the_blank_to_the_tilde(self):
        for sign in ["\t", "\r", "\0", "\x0b", "\x1f", "\x7f", "\x80", "\xa0", "\xe4", "\u2028", "\u0661", "\U0001f600"]:
            self.check_refused(sign, "@." + sign, "@.a" + sign, sign + "@.a", "@.a" + sign + "@.b", "@.~" + sign)

    def test_one_wrong_part_among_right_ones(self):
        self.check_refused("@.a =.b x.c", "x.a =.b @.c", "@.a =+b @.c")

    def test_a_text_too_long_for_any_form(self):
        self.check_refused("@." + "a" * 5000, "@.a " * 2000 + "@.a")


if __name__ == "__main__":
    unittest.main()
