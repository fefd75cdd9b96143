"""A page: a text with its words, pieces and nodes, which bear marks and keep them through changes."""

from regrowth.aside import aside_of
from regrowth.again import words_again
from regrowth.changes import check_change
from regrowth.errors import TooLong
from regrowth.marks import carried, knitted
from regrowth.pieces import pieces_of
from regrowth.reading import read_row
from regrowth.words import places_of, words_of

MOST_SIGNS = 1000


class Page:
    """A text that takes changes, and what is read of it."""

    def __init__(self, book, tables, ends, text=""):
        check_long(len(text))
        self.book = [(kind, list(form)) for kind, form in book]
        self.tables = copied_tables(tables)
        self.ends = list(ends)
        self.last_mark = 0
        self.word_marks = []
        # The marks of nodes by what they are: the rule, and the marks of the words that they stand over.
        self.node_marks = {}
        # What is read of a piece, by the kinds of its words, so that the same row is not read again.
        self.readings = {}
        cut = words_of(self.book, lambda k: text[k], len(text))
        self.lay_out(text, cut, [-1] * len(cut))

    def change(self, at, gone, put):
        """Puts the text in the stead of `gone` signs from `at` on; or NoFit, or TooLong."""
        come = len(put)
        size = len(self.text) - gone + come
        check_change(len(self.text), size, at, gone, come)
        check_long(size)
        text = self.text[:at] + put + self.text[at + gone:]
        cut = words_again(self.book, lambda k: text[k], size, self.cut, at, gone, come)
        self.lay_out(text, cut, carried(self.cut, cut, at, gone, come))

    def lay_out(self, text, cut, origins):
        """Keeps the text, its words and what is read of them; an origin is the number of an old word, or -1."""
        self.word_marks = [self.new_mark() if origin < 0 else self.word_marks[origin] for origin in origins]
        self.text = text
        self.cut = cut
        self.told_words = words_told(text, cut, self.word_marks)
        pieces = pieces_of([word[0] for word in cut], self.ends)
        self.readings = self.readings_of(pieces)
        self.told_pieces = []
        self.told_sheet = []
        marks = {}
        for begin, end, holder in pieces:
            reading = self.readings[kinds_within(cut, begin, end)]
            left = begin + reading[0]
            right = begin + reading[1]
            self.told_pieces.append((begin, end, left, right, holder))
            row = self.told_words[begin:left] + self.told_words[right:end]
            self.told_sheet.append((holder, self.rows_of(reading[2], row, marks)))
        self.node_marks = marks

    def new_mark(self):
        self.last_mark += 1
        return self.last_mark

    def readings_of(self, pieces):
        """What is read of each piece, (left, right, nodes), by the kinds of its words."""
        readings = {}
        for begin, end, holder in pieces:
            kinds = kinds_within(self.cut, begin, end)
            if kinds not in readings:
                known = self.readings.get(kinds)
                readings[kinds] = reading_of(self.tables, list(kinds)) if known is None else known
        return readings

    def rows_of(self, nodes, row, marks):
        """The rows of one piece's nodes over the row of words; puts the mark of each into `marks`."""
        rows = []
        for rule, parts, begin, words in nodes:
            known_by = (rule, tuple([word[0] for word in row[begin:begin + words]]))
            mark = self.node_marks.get(known_by)
            if mark is None:
                mark = self.new_mark()
            marks[known_by] = mark
            rows.append((mark, rule, tuple([part_told(part, row, rows) for part in parts])))
        return rows

    def shown(self):
        return self.text

    def words(self):
        return list(self.told_words)

    def pieces(self):
        return list(self.told_pieces)

    def sheet(self):
        return [(holder, own_rows(rows)) for holder, rows in self.told_sheet]


def check_long(size):
    if size > MOST_SIGNS:
        raise TooLong(f"more than {MOST_SIGNS} signs: {size}")


def copied_tables(tables):
    return (list(tables[0]), [dict(behind) for behind in tables[1]], [dict(deeds) for deeds in tables[2]])


def words_told(text, cut, marks):
    """The words as they are told: (mark, kind, gap, text)."""
    told = []
    for word, place, mark in zip(cut, places_of(cut), marks):
        begin = place + word[1]
        told.append((mark, word[0], text[place:begin], text[begin:begin + word[2]]))
    return told


def kinds_within(cut, begin, end):
    return tuple([word[0] for word in cut[begin:end]])


def reading_of(tables, kinds):
    """What is set aside of the row of kinds, and the nodes of the rest: (left, right, nodes)."""
    stretch = aside_of(tables, kinds)
    rest = kinds[:stretch[0]] + kinds[stretch[1]:]
    nodes = []
    if rest:
        nodes = knitted(tables[0], read_row(tables, lambda k: rest[k], len(rest)))
    return (stretch[0], stretch[1], nodes)


def part_told(part, row, rows):
    """A word's mark and text, or a node's mark and None."""
    if part[0] == "word":
        return (row[part[1]][0], row[part[1]][3])
    return (rows[part[1]][0], None)


def own_rows(rows):
    """The rows as the asker's own lists."""
    return [(mark, rule, list(parts)) for mark, rule, parts in rows]
