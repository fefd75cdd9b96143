"""A desk: a page of a grammar that is told as a text, with the kinds of its nodes."""

from regrowth.answers import Answers
from regrowth.brackets import tree_text
from regrowth.errors import NoFit
from regrowth.grammars import grammar_of
from regrowth.page import Page
from regrowth.tables import tables_of


class Desk:
    """A text that takes changes, what is read of it, and how that is judged."""

    def __init__(self, grammar, judge, text=""):
        told = grammar_of(grammar)
        self.rules = told[1]
        self.page = Page(told[0], tables_of(self.rules), told[2], text)
        self.answers = Answers(told[3], judge)
        self.reckoned = self.answers.reckon(self.page.sheet())

    def write(self, at, gone, put):
        """Puts the text in the stead of `gone` signs from `at` on; or NoFit, or TooLong."""
        self.page.change(at, gone, put)
        self.reckoned = self.answers.reckon(self.page.sheet())

    def shown(self):
        return self.page.shown()

    def words(self):
        return self.page.words()

    def pieces(self):
        return self.page.pieces()

    def sheet(self):
        return self.page.sheet()

    def kinds(self):
        """For each piece the kinds of its rows, as they were told when the sheet was reckoned last."""
        return [list(kinds) for kinds in self.reckoned]

    def asides(self):
        """For each piece the text of the words that are set aside of it."""
        words = self.words()
        return [text_of(words[left:right]) for begin, end, left, right, holder in self.pieces()]

    def tree(self, number):
        """The tree of the piece of that number as a text, or NoFit."""
        sheet = self.sheet()
        if not 0 <= number < len(sheet):
            raise NoFit(f"no piece has the number {number}")
        return tree_text(self.rules, sheet[number][1])


def text_of(words):
    return "".join([gap + text for mark, kind, gap, text in words])
