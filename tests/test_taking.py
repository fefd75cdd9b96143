"""Promises 8 and 9, and of 3 what touches them: what a form takes, and where it looks."""

import itertools
import unittest

from regrowth.forms import form_of
from regrowth.taking import taken_by


def take(form, text, at=0):
    """What taken_by tells, and the places it asked for, sorted, each once."""
    asked = {}

    def ask(k):
        if not 0 <= k < len(text):
            raise AssertionError(f"asked for place {k}, which is none")
        asked[k] = True
        return text[k]

    return taken_by(form, ask, len(text), at), sorted(asked)


def looked_at_by_part(part, text, place):
    """How many signs the part takes, or None, and at which places it looked: told by case."""
    deed, signs, many = part
    if deed == "row":
        looked = [place]
        while looked[-1] < len(text) and text[looked[-1]] == signs[len(looked) - 1] and len(looked) < len(signs):
            looked.append(looked[-1] + 1)
        stands = text.startswith(signs, place)
        takes = {"once": len(signs) if stands else None, "ahead": 0 if stands else None, "not": None if stands else 0}
        return takes[many], looked

    def is_told(k):
        return k < len(text) and ((text[k] in signs) if deed == "in" else (text[k] not in signs))

    if many in ("some", "any"):
        end = place
        while is_told(end):
            end += 1
        takes = end - place
        return (None if takes == 0 and many == "some" else takes), list(range(place, end + 1))
    stands = is_told(place)
    takes = {
        "once": 1 if stands else None, "maybe": 1 if stands else 0,
        "ahead": 0 if stands else None, "not": None if stands else 0,
    }
    return takes[many], [place]


def told_by_document(form, text, at):
    """The same as `take`, part by part from lists of places."""
    place, looked = at, []
    taken = None
    for part in form:
        taken, places = looked_at_by_part(part, text, place)
        looked += places
        if taken is None:
            break
        place += taken
    result = (0 if taken is None else place - at, max(looked) - at + 1)
    return result, sorted({k for k in looked if k < len(text)})


class TakenTest(unittest.TestCase):
    def check(self, form, text, at, taken, looked, asked):
        """`form` written; `asked` the places that are asked for, all of them."""
        with self.subTest(form=form, text=text, at=at):
            self.assertEqual(take(form_of(form), text, at), ((taken, looked), asked))

    def test_in_once(self):
        self.check("@.ab", "bx", 0, 1, 1, [0])
        self.check("@.ab", "xb", 0, 0, 1, [0])
        self.check("@.ab", "xb", 1, 1, 1, [1])
        self.check("@.ab", "ab", 2, 0, 1, [])
        self.check("@.ab", "", 0, 0, 1, [])

    def test_in_maybe(self):
        self.check("@?ab", "aa", 0, 1, 1, [0])
        self.check("@?ab", "xa", 0, 0, 1, [0])
        self.check("@?ab", "aa", 2, 0, 1, [])

    def test_in_some(self):
        self.check("@+ab", "xabbax", 1, 4, 5, [1, 2, 3, 4, 5])
        self.check("@+ab", "aba", 0, 3, 4, [0, 1, 2])
        self.check("@+ab", "xa", 0, 0, 1, [0])
        self.check("@+ab", "aa", 2, 0, 1, [])

    def test_in_any(self):
        self.check("@*ab", "xabbax", 1, 4, 5, [1, 2, 3, 4, 5])
        self.check("@*ab", "aba", 0, 3, 4, [0, 1, 2])
        self.check("@*ab", "xa", 0, 0, 1, [0])
        self.check("@*ab", "aa", 2, 0, 1, [])

    def test_in_ahead(self):
        self.check("@>ab @.a", "ax", 0, 1, 1, [0])
        self.check("@>ab @.x", "xa", 0, 0, 1, [0])
        self.check("@.a @>b", "ab", 0, 1, 2, [0, 1])
        self.check("@.a @>b", "ac", 0, 0, 2, [0, 1])
        self.check("@.a @>b", "a", 0, 0, 2, [0])

    def test_in_not(self):
        self.check("@.a @-b", "ac", 0, 1, 2, [0, 1])
        self.check("@.a @-b", "ab", 0, 0, 2, [0, 1])
        self.check("@.a @-b", "a", 0, 1, 2, [0])

    def test_out_once(self):
        self.check("^.ab", "xa", 0, 1, 1, [0])
        self.check("^.ab", "ax", 0, 0, 1, [0])
        self.check("^.ab", "xx", 2, 0, 1, [])

    def test_out_maybe(self):
        self.check("^?ab", "xx", 0, 1, 1, [0])
        self.check("^?ab", "ax", 0, 0, 1, [0])
        self.check("^?ab", "xx", 2, 0, 1, [])

    def test_out_some(self):
        self.check("^+ab", "axyzb", 1, 3, 4, [1, 2, 3, 4])
        self.check("^+ab", "xyz", 0, 3, 4, [0, 1, 2])
        self.check("^+ab", "ax", 0, 0, 1, [0])
        self.check("^+ab", "xx", 2, 0, 1, [])

    def test_out_any(self):
        self.check("^*ab", "axyzb", 1, 3, 4, [1, 2, 3, 4])
        self.check("^*ab", "xyz", 0, 3, 4, [0, 1, 2])
        self.check("^*ab", "ax", 0, 0, 1, [0])
        self.check("^*ab", "xx", 2, 0, 1, [])

    def test_out_ahead(self):
        self.check("@.a ^>b", "ac", 0, 1, 2, [0, 1])
        self.check("@.a ^>b", "ab", 0, 0, 2, [0, 1])
        self.check("@.a ^>b", "a", 0, 0, 2, [0])

    def test_out_not(self):
        self.check("@.a ^-b", "ab", 0, 1, 2, [0, 1])
        self.check("@.a ^-b", "ac", 0, 0, 2, [0, 1])
        self.check("@.a ^-b", "a", 0, 1, 2, [0])

    def test_row_once(self):
        self.check("=.abc", "xabcx", 1, 3, 3, [1, 2, 3])
        self.check("=.abc", "abc", 0, 3, 3, [0, 1, 2])
        self.check("=.abc", "xbc", 0, 0, 1, [0])
        self.check("=.abc", "axc", 0, 0, 2, [0, 1])
        self.check("=.abc", "abx", 0, 0, 3, [0, 1, 2])
        self.check("=.abc", "ab", 0, 0, 3, [0, 1])
        self.check("=.abc", "abc", 3, 0, 1, [])
        self.check("=.a", "a", 0, 1, 1, [0])

    def test_row_ahead(self):
        self.check("=>abc @.a", "abcd", 0, 1, 3, [0, 1, 2])
        self.check("=>abc @.a", "abd", 0, 0, 3, [0, 1, 2])
        self.check("=>abc @.a", "adc", 0, 0, 2, [0, 1])
        self.check("=>abc @.a", "ab", 0, 0, 3, [0, 1])
        self.check("=>abc", "abc", 0, 0, 3, [0, 1, 2])
        self.check("=>abc", "abc", 3, 0, 1, [])

    def test_row_not(self):
        self.check("=-abc @.a", "abd", 0, 1, 3, [0, 1, 2])
        self.check("=-abc @.a", "axc", 0, 1, 2, [0, 1])
        self.check("=-abc @.a", "ab", 0, 1, 3, [0, 1])
        self.check("=-abc @.a", "abc", 0, 0, 3, [0, 1, 2])
        self.check("@.a =-bc", "a", 0, 1, 2, [0])

    def test_parts_go_on_where_the_signs_taken_end(self):
        self.check("@.a @+b =.cd @?x ^*y", "abbbcdzzy", 0, 8, 9, list(range(9)))
        self.check("@.a @+b =.cd @?x ^*y", "__abbbcdzzy", 2, 8, 9, list(range(2, 11)))

    def test_one_part_of_several_fails_and_no_later_one_is_looked_at(self):
        self.check("@.x @+b =.cd ^*y", "abbcd", 0, 0, 1, [0])
        self.check("@.a @+x =.cd ^*y", "abbcd", 0, 0, 2, [0, 1])
        self.check("@.a @+b =.cx ^*y", "abbcdzz", 0, 0, 5, [0, 1, 2, 3, 4])
        self.check("@.a @+b =.cd ^.z", "abbcdzz", 0, 0, 6, [0, 1, 2, 3, 4, 5])

    def test_what_was_taken_is_never_given_back(self):
        self.check("@*a @.a", "aaa", 0, 0, 4, [0, 1, 2])
        self.check("@+a =.ab", "aaab", 0, 0, 4, [0, 1, 2, 3])
        self.check("@?a @.a", "ab", 0, 0, 2, [0, 1])
        self.check("^*; =.*/", "x*/;", 0, 0, 4, [0, 1, 2, 3])

    def test_an_earlier_part_may_have_looked_farthest(self):
        self.check("=>abcd @.a", "abcde", 0, 1, 4, [0, 1, 2, 3])
        self.check("=>abcd @.x", "abcde", 0, 0, 4, [0, 1, 2, 3])
        self.check("=-abx @.a @.b", "abc", 0, 2, 3, [0, 1, 2])
        self.check("@.z =-abcx @.a", "zabcd", 0, 2, 5, [0, 1, 2, 3, 4])

    def test_a_form_that_holds_may_take_nothing(self):
        self.check("@?a @*b", "c", 0, 0, 1, [0])
        self.check("=>ab", "ab", 0, 0, 2, [0, 1])
        self.check("@-a ^-a", "", 0, 0, 1, [])

    def test_at_the_texts_end(self):
        for deed in "@^":
            for many in ".?+*>-":
                self.check(deed + many + "a", "xa", 2, 0, 1, [])
                self.check(deed + many + "a", "", 0, 0, 1, [])
        for many in ".>-":
            self.check("=" + many + "ab", "xa", 2, 0, 1, [])

    def test_which_parts_hold_at_the_texts_end(self):
        # The sign ahead of the end, taken or not, tells whether the part held.
        for part in ("@?a", "@*a", "@-a", "^?a", "^*a", "^-a", "=-ab"):
            self.check("@.x " + part, "x", 0, 1, 2, [0])
        for part in ("@.a", "@+a", "@>a", "^.a", "^+a", "^>a", "=.ab", "=>ab"):
            self.check("@.x " + part, "x", 0, 0, 2, [0])

    def test_blanks_and_line_ends_are_signs(self):
        self.check("@+~b~n", " \n x", 0, 3, 4, [0, 1, 2, 3])
        self.check("^*~n", "a b\n", 0, 3, 4, [0, 1, 2, 3])
        self.check("=.~b~n~t", " \n~", 0, 3, 3, [0, 1, 2])

    def test_the_edges_of_a_form(self):
        self.check(" ".join(["@.a"] * 12), "a" * 13, 0, 12, 12, list(range(12)))
        self.check("=." + "q" * 100, "q" * 101, 1, 100, 100, list(range(1, 101)))
        self.check("=." + "q" * 100, "q" * 99, 0, 0, 100, list(range(99)))
        self.check("@+q", "q" * 1000, 0, 1000, 1001, list(range(1000)))


class ManyShortOnesTest(unittest.TestCase):
    """Forms of one, two and three parts, put together from a few, on short texts (for three parts a third of them)."""

    ONE = [
        (deed, signs, many)
        for deed, signs in (("in", "a"), ("out", "a"), ("in", "ab"), ("out", "bc"))
        for many in ("once", "maybe", "some", "any", "ahead", "not")
    ] + [("row", signs, many) for signs in ("a", "ab", "aab", "aa") for many in ("once", "ahead", "not")]

    def check_all(self, forms, texts):
        for form in forms:
            for text in texts:
                for at in range(len(text) + 1):
                    if take(form, text, at) != told_by_document(form, text, at):
                        self.assertEqual(take(form, text, at), told_by_document(form, text, at), (form, text, at))

    def texts(self, signs, longest):
        for size in range(longest + 1):
            for row in itertools.product(signs, repeat=size):
                yield "".join(row)

    def test_one_part(self):
        self.check_all([[part] for part in self.ONE], list(self.texts("abc", 5)))

    def test_two_parts(self):
        forms = [list(form) for form in itertools.product(self.ONE, repeat=2)]
        self.check_all(forms, list(self.texts("abc", 3)))

    def test_three_parts(self):
        few = [part for part in self.ONE if part[1] in ("a", "ab")][::2]
        forms = [list(form) for form in itertools.product(few, repeat=3)]
        self.check_all(forms, list(self.texts("ab", 4))[::3])


class TheAskersOwnTest(unittest.TestCase):
    def test_a_tuple_of_two_whole_numbers(self):
        for form in ("@.a", "@.b", "@*a =-b"):
            told = taken_by(form_of(form), lambda k: "aa"[k], 2, 0)
            self.assertIs(type(told), tuple)
            self.assertEqual([type(number) for number in told], [int, int])

    def test_the_form_handed_in_stays(self):
        form = [("in", "ab", "some"), ("row", "cd", "once"), ("out", "ab", "not")]
        for text in ("abcd", "abcdx", "", "cd"):
            take(form, text)
            self.assertEqual(form, [("in", "ab", "some"), ("row", "cd", "once"), ("out", "ab", "not")])

    def test_asked_again_it_tells_the_same(self):
        form = form_of("@+a =>bc @.b")
        self.assertEqual(take(form, "aabc"), take(form, "aabc"))
        self.assertEqual(take(form, "aabc"), ((3, 4), [0, 1, 2, 3]))


if __name__ == "__main__":
    unittest.main()
