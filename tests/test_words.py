"""Promises 10 to 14, and of 3 what touches them: how a text is cut into words."""

import itertools
import unittest

from helping import kept_ask
from regrowth.forms import form_of
from regrowth.words import word_at, words_of
from test_taking import told_by_document


def book_of(*entries):
    return [(kind, form_of(form)) for kind, form in entries]


# Gaps of two sorts, words that begin alike, forms that look farther than they take.
BOOK = book_of(
    ("", "@+~b~n"), ("", "=.-- ^*~n"), ("if", "=.if @-~a~0"), ("name", "@.~a @*~a~0"),
    ("number", "@+~0"), ("broken", "@+~0 =.. @+~0"), ("op", "@.+*"), ("arrow", "=.-->"), ("dash", "=.-"),
)
# Gap forms one of which goes on where another one ends, one that needs what it does not take.
ODD = book_of(
    ("", "=.a"), ("", "=.ab"), ("", "=.c =>bb"), ("x", "=.bb"), ("y", "@.b @.bc"), ("z", "@*c =>ab"), ("w", "@?b @?c"),
)


def word_told(book, text, at):
    """The word, told from the document, and the places that its forms looked at."""
    place, looked = at, []

    def takes(entries):
        told = []
        for number, (kind, form) in enumerate(entries):
            (taken, _), asked = told_by_document(form, text, place)
            far = told_by_document(form, text, place)[0][1]
            looked.append(place + far - 1)
            looked.extend(asked)
            if taken:
                told.append((-taken, number, kind))
        return sorted(told)

    gaps = [entry for entry in book if entry[0] == ""]
    found = takes(gaps)
    while found:
        place -= found[0][0]
        found = takes(gaps)
    looked.append(place)
    if place == len(text):
        return ("end", place - at, 0, max(looked) - at + 1), looked
    found = takes([entry for entry in book if entry[0] != ""])
    kind, long = (found[0][2], -found[0][0]) if found else ("stray", 1)
    return (kind, place - at, long, max(looked) - at + 1), looked


def texts(signs, longest):
    for size in range(longest + 1):
        for row in itertools.product(signs, repeat=size):
            yield "".join(row)


class WordTest(unittest.TestCase):
    def check(self, book, text, at, word):
        with self.subTest(text=text, at=at):
            ask, asked = kept_ask(text)
            self.assertEqual(word_at(book, ask, len(text), at), word)
            self.assertLessEqual(max(asked, default=at), at + word[3] - 1)
            self.assertGreaterEqual(min(asked, default=at), at)

    def test_the_form_that_takes_most(self):
        book = book_of(("few", "=.ab"), ("most", "@+ab"), ("one", "@.a"))
        self.check(book, "abab", 0, ("most", 0, 4, 5))
        self.check(book, "xabac", 1, ("most", 0, 3, 4))

    def test_of_those_that_take_as_many_the_first_in_the_book(self):
        self.check(book_of(("one", "=.ab"), ("two", "@+ab")), "ab", 0, ("one", 0, 2, 3))
        self.check(book_of(("two", "@+ab"), ("one", "=.ab")), "ab", 0, ("two", 0, 2, 3))
        self.check(book_of(("a", "=.x"), ("b", "=.xy"), ("c", "=.xy"), ("d", "=.xy")), "xy", 0, ("b", 0, 2, 2))

    def test_two_forms_of_one_kind(self):
        book = book_of(("k", "=.ab"), ("l", "=.abc"), ("k", "=.abcd"))
        self.check(book, "abcd", 0, ("k", 0, 4, 4))
        self.check(book, "abx", 0, ("k", 0, 2, 3))

    def test_stray(self):
        self.check(book_of(("k", "=.ab")), "ax", 0, ("stray", 0, 1, 2))
        self.check(book_of(("k", "=.ab")), "xx", 0, ("stray", 0, 1, 1))
        self.check(book_of(("k", "=.abcd")), "abcx", 0, ("stray", 0, 1, 4))
        self.check(book_of(("", "@+~b"), ("k", "=.ab")), "  ax", 0, ("stray", 2, 1, 4))

    def test_a_form_that_holds_but_takes_nothing_makes_no_word(self):
        self.check(book_of(("k", "@*a"), ("l", "=>b")), "b", 0, ("stray", 0, 1, 1))

    def test_end(self):
        self.check(BOOK, "", 0, ("end", 0, 0, 1))
        self.check(BOOK, "if", 2, ("end", 0, 0, 1))
        self.check(BOOK, "if  ", 2, ("end", 2, 0, 3))
        self.check(BOOK, "-- no more", 0, ("end", 10, 0, 11))

    def test_a_book_without_forms(self):
        for text, at, word in (("", 0, ("end", 0, 0, 1)), ("ab", 0, ("stray", 0, 1, 1)), ("ab", 2, ("end", 0, 0, 1))):
            self.check([], text, at, word)

    def test_a_book_of_gaps_alone(self):
        book = book_of(("", "@+~b"))
        self.check(book, "  x", 0, ("stray", 2, 1, 3))
        self.check(book, "  ", 0, ("end", 2, 0, 3))

    def test_a_book_without_gaps(self):
        self.check(book_of(("k", "@+a")), " a", 0, ("stray", 0, 1, 1))

    def test_gaps_by_the_form_that_takes_most(self):
        # Gone along by the shorter one first, the rest would not be a gap.
        book = book_of(("", "=.a"), ("", "=.ab"), ("b", "=.b"))
        self.check(book, "abab", 0, ("end", 4, 0, 5))
        self.check(book, "aabb", 0, ("b", 3, 1, 4))

    def test_a_gap_goes_on_as_often_as_a_form_takes_signs(self):
        self.check(BOOK, " \n-- one\n -- two\nif+", 0, ("if", 17, 2, 20))
        self.check(book_of(("", "=.ab"), ("", "=.c")), "abcabcx", 0, ("stray", 6, 1, 7))

    def test_a_gap_form_takes_signs_that_a_word_would_take(self):
        book = book_of(("word", "@+a"), ("", "=.a"))
        self.check(book, "aab", 0, ("stray", 2, 1, 3))

    def test_a_gap_form_that_takes_nothing_does_not_go_on_for_ever(self):
        self.check(book_of(("", "@*~b"), ("", "=>x"), ("k", "@.x")), "  x", 0, ("k", 2, 1, 3))

    def test_looked_is_the_farthest_place_of_any_form(self):
        self.check(BOOK, "12.x", 0, ("number", 0, 2, 4))
        self.check(BOOK, "12.5+", 0, ("broken", 0, 4, 5))
        self.check(BOOK, "12.", 0, ("number", 0, 2, 4))
        self.check(BOOK, "12", 0, ("number", 0, 2, 3))
        self.check(book_of(("k", "@.a"), ("far", "=.abcdef")), "abcdx", 0, ("k", 0, 1, 5))

    def test_gap_forms_look_behind_the_gap_too(self):
        book = book_of(("", "@+~b"), ("", "=.abcd"), ("k", "=.a"))
        self.check(book, " abcx", 0, ("k", 1, 1, 5))
        self.check(book, " abc", 0, ("k", 1, 1, 5))

    def test_what_was_looked_at_ahead_in_the_gap_may_be_farthest(self):
        book = book_of(("", "=.~b"), ("", "=.~bab!"), ("k", "=.a"))
        self.check(book, " abx", 0, ("k", 1, 1, 4))

    def test_at_the_texts_end_no_word_form_is_asked(self):
        self.check(book_of(("", "@+~b"), ("k", "=.ab")), " ", 0, ("end", 1, 0, 2))

    def test_a_word_is_a_tuple_of_its_own(self):
        word = word_at(BOOK, lambda k: "if"[k], 2, 0)
        self.assertIs(type(word), tuple)
        self.assertEqual([type(thing) for thing in word], [str, int, int, int])


class AllShortTextsTest(unittest.TestCase):
    def check_all(self, book, signs, longest):
        for text in texts(signs, longest):
            for at in range(len(text) + 1):
                ask, asked = kept_ask(text)
                word = word_at(book, ask, len(text), at)
                told, looked = word_told(book, text, at)
                if word != told or not set(asked) <= set(range(at, at + told[3])):
                    self.fail((text, at, word, told, sorted(asked)))

    def test_the_book(self):
        self.check_all(BOOK, "i1- .", 4)
        self.check_all(BOOK, "f-\n>", 5)

    def test_the_odd_book(self):
        self.check_all(ODD, "abc", 7)


class WordsTest(unittest.TestCase):
    def words(self, book, text):
        ask, asked = kept_ask(text)
        words = words_of(book, ask, len(text))
        self.assertIs(type(words), list)
        return words

    def test_a_text(self):
        self.assertEqual(self.words(BOOK, "if x1 -- why\n+12 "), [
            ("if", 0, 2, 3), ("name", 1, 2, 4), ("op", 8, 1, 9), ("number", 0, 2, 3), ("end", 1, 0, 2),
        ])

    def test_no_signs(self):
        self.assertEqual(self.words(BOOK, ""), [("end", 0, 0, 1)])
        self.assertEqual(self.words([], ""), [("end", 0, 0, 1)])

    def test_a_book_without_forms(self):
        self.assertEqual(self.words([], "a b"), [("stray", 0, 1, 1)] * 3 + [("end", 0, 0, 1)])

    def test_end_to_end_they_are_the_text_and_each_is_the_word_from_its_place_on(self):
        for book, signs, longest in ((BOOK, "i1- .", 4), (ODD, "abc", 6)):
            for text in texts(signs, longest):
                place, words = 0, self.words(book, text)
                for word in words:
                    self.assertEqual(word, word_told(book, text, place)[0])
                    place += word[1] + word[2]
                self.assertEqual(place, len(text))
                self.assertEqual([word[0] == "end" for word in words], [False] * (len(words) - 1) + [True])

    def test_a_text_of_a_thousand_signs(self):
        words = self.words(BOOK, "ab 12+--x\n" * 100)
        self.assertEqual(len(words), 301)
        self.assertEqual(sum(word[1] + word[2] for word in words), 1000)
        self.assertEqual(words[3], ("name", 4, 2, 7))

    def test_a_word_hangs_on_nothing_but_the_signs_looked_at(self):
        for book, signs, longest in ((BOOK, "i1- .", 3), (ODD, "abc", 4)):
            every = list(texts(signs, longest))
            for text in every:
                for at in range(len(text) + 1):
                    word = word_at(book, kept_ask(text)[0], len(text), at)
                    seen = text[at:at + word[3]]
                    ends = at + word[3] > len(text)
                    for tail in ([""] if ends else every[::3]):
                        other = "--" + seen + tail
                        self.assertEqual(word_at(book, kept_ask(other)[0], len(other), 2), word, (text, at, other))

    def test_what_is_handed_in_stays(self):
        book = [(kind, list(form)) for kind, form in BOOK]
        words = words_of(book, kept_ask("if x")[0], 4)
        words.clear()
        self.assertEqual(book, BOOK)
        self.assertEqual(self.words(book, "if x"), [("if", 0, 2, 3), ("name", 1, 1, 3), ("end", 0, 0, 1)])


if __name__ == "__main__":
    unittest.main()
