"""Promises 4, 15 and 16, and of 2 and 3 what touches them: words told again behind a change."""

import unittest

from helping import BIG, changed, each_change, kept_ask, some_changes, unfit
from regrowth.again import words_again
from regrowth.errors import NoFit
from regrowth.words import words_of
from test_words import BOOK, ODD, book_of, texts

# A form that looks at the whole rest, and one that hangs on what stands far behind it.
FAR = book_of(("", "@+~b"), ("all", "@.a ^*; =.;"), ("a", "@+a"), ("b", "=.b =-cccc"), ("c", "@.c"))


def words_told(book, text):
    return words_of(book, kept_ask(text)[0], len(text))


def places(words):
    place, told = 0, []
    for word in words:
        told.append(place)
        place += word[1] + word[2]
    return told


def may_be_asked(old, new, at, gone, come):
    """The places that point 16 allows, told from points 15 and 16."""
    stays = {}
    for word, place in zip(old, places(old)):
        if place + word[3] <= at:
            stays[place] = word
        if place >= at + gone:
            stays[place - gone + come] = word
    allowed = set()
    for word, place in zip(new, places(new)):
        if place not in stays:
            allowed |= set(range(place, place + word[3]))
    return allowed


class AgainTest(unittest.TestCase):
    def check(self, book, text, at, gone, put):
        """That the words are those of the new text, that no place is asked that may not be; the places asked."""
        new = changed(text, at, gone, put)
        old = words_told(book, text)
        handed = list(old)
        ask, asked = kept_ask(new)
        told = words_again(book, ask, len(new), handed, at, gone, len(put))
        expected = words_told(book, new)
        if told != expected:
            self.assertEqual(told, expected, (text, at, gone, put))
        if handed != old:
            self.fail("the old list did not stay")
        over = set(asked) - may_be_asked(old, expected, at, gone, len(put))
        if over:
            self.fail((text, at, gone, put, sorted(over)))
        return sorted(asked)

    def test_within_a_word(self):
        self.assertEqual(self.check(BOOK, "ab cd ef", 4, 0, "x"), [2, 3, 4, 5, 6])

    def test_at_a_words_begin(self):
        # The word ahead looked at the place of the change, and so is read anew.
        self.assertEqual(self.check(BOOK, "+ ab + cd", 2, 0, "x"), [1, 2, 3, 4, 5])
        self.assertEqual(self.check(BOOK, "ab+cd", 3, 0, "x"), [3, 4, 5])

    def test_at_a_words_end(self):
        self.assertEqual(self.check(BOOK, "ab +", 2, 0, "x"), [0, 1, 2, 3])

    def test_nothing_goes_and_nothing_comes(self):
        self.assertEqual(self.check(BOOK, "ab+cd+ef", 4, 0, ""), [3, 4, 5])
        # Between words whose forms looked no farther nothing is asked at all.
        self.assertEqual(self.check(BOOK, "+++", 1, 0, ""), [])
        self.assertEqual(self.check(BOOK, "+++", 0, 0, ""), [])
        self.assertEqual(self.check(BOOK, "+++", 3, 0, ""), [])

    def test_all_goes(self):
        self.assertEqual(self.check(BOOK, "ab+cd", 0, 5, ""), [])
        self.assertEqual(self.check(BOOK, "ab+cd", 0, 5, "x"), [0])
        self.assertEqual(self.check(BOOK, "", 0, 0, "x+"), [0, 1])

    def test_all_to_the_end_goes(self):
        self.assertEqual(self.check(BOOK, "+ab cd", 2, 4, ""), [1])
        self.assertEqual(self.check(BOOK, "++ab cd", 2, 5, ""), [])

    def test_a_word_far_ahead_looked_at_the_change(self):
        self.assertEqual(self.check(FAR, "aaa bbb;", 7, 1, ""), list(range(7)))
        self.assertEqual(self.check(FAR, "cc aaa bbb", 10, 0, ";"), list(range(2, 11)))

    def test_words_behind_stay_where_they_lie_now(self):
        self.assertEqual(self.check(BOOK, "+ if if if", 0, 1, "**"), [0, 1])
        self.assertEqual(self.check(BOOK, "+" * 500, 250, 0, "*"), [250])
        self.assertEqual(self.check(BOOK, "+" * 500, 250, 3, ""), [])
        self.assertEqual(self.check(BOOK, "+" * 999, 0, 0, "*"), [0])

    def test_words_behind_that_are_no_words_now(self):
        # What comes swallows the first of them.
        self.assertEqual(self.check(BOOK, "+ if x", 1, 0, "--"), list(range(1, 8)))
        self.assertEqual(self.check(BOOK, "-- a b\nc d", 0, 1, ""), list(range(8)))

    def test_every_change_of_short_texts(self):
        for book, text, puts in (
            (BOOK, "if1--i\n+i", ["", "f", "-", "\n", "-- "]),
            (BOOK, "12.5 --> 1", ["", ".", "-", "1 "]),
            (ODD, "abcbbabcab", ["", "a", "b", "c", "bb"]),
            (FAR, "a;b cccc a", ["", ";", "c", "a", " "]),
            (FAR, "bcccbccccb;", ["", "c", "b", ";"]),
            ([], "abc", ["", "x", "xy"]),
        ):
            for at, gone, put, new in each_change(text, puts):
                self.check(book, text, at, gone, put)

    def test_every_change_of_every_short_text(self):
        for text in texts("abc", 4):
            for at, gone, put, new in each_change(text, ["", "a", "b", "cb"]):
                self.check(ODD, text, at, gone, put)

    def test_changes_one_behind_another(self):
        for book, signs in ((BOOK, "if1+-. \n>"), (ODD, "abc"), (FAR, "abc; ")):
            for seed in range(6):
                text, words = "", words_told(book, "")
                for at, gone, put, new in some_changes("", signs, seed, 60, 40):
                    self.check(book, text, at, gone, put)
                    words = words_again(book, kept_ask(new)[0], len(new), words, at, gone, len(put))
                    self.assertEqual(words, words_told(book, new))
                    text = new


class RefusedTest(unittest.TestCase):
    def check_refused(self, old, size, at, gone, come):
        def ask(k):
            raise AssertionError("asked where it is refused")

        handed = list(old)
        with self.subTest(size=size, at=at, gone=gone, come=come), self.assertRaises(NoFit):
            words_again(BOOK, ask, size, handed, at, gone, come)
        self.assertEqual(handed, old)

    def test_numbers_that_do_not_fit(self):
        for text, size in (("ab cd", 5), ("ab cd", 7), ("ab cd", 2), ("", 0), ("", 3)):
            for at, gone, come in unfit(len(text), size):
                self.check_refused(words_told(BOOK, text), size, at, gone, come)

    def test_a_size_that_does_not_come_out(self):
        old = words_told(BOOK, "ab cd")
        for size in (0, 4, 6, BIG, 10 ** 60 - 1):
            self.check_refused(old, size, 0, 0, 0)
            self.check_refused(old, size, 2, 2, 2)
        self.check_refused(old, 5, 0, 1, 0)
        self.check_refused(old, 5, 0, 0, 1)
        self.check_refused(old, BIG, 0, 0, BIG)

    def test_the_edges_that_fit(self):
        old = words_told(BOOK, "ab cd")
        for at, gone, come, new in ((5, 0, 0, "ab cd"), (0, 5, 0, ""), (4, 1, 1, "ab cx"), (5, 0, 2, "ab cdef")):
            told = words_again(BOOK, kept_ask(new)[0], len(new), old, at, gone, come)
            self.assertEqual(told, words_told(BOOK, new))


class TheAskersOwnTest(unittest.TestCase):
    def test_a_new_list(self):
        old = words_told(BOOK, "ab cd")
        told = words_again(BOOK, kept_ask("ab cd")[0], 5, old, 5, 0, 0)
        self.assertEqual(told, old)
        self.assertIsNot(told, old)
        told.clear()
        self.assertEqual(old, words_told(BOOK, "ab cd"))


if __name__ == "__main__":
    unittest.main()
