"""Reading: a row of words is put together to a tree by a grammar's tables."""

from regrowth.errors import Stuck
from regrowth.nexts import END
from regrowth.plain import NO_RULE

WORD_STEP = -1


class Reader:
    """What is kept while a row is read: the stack of states, and the way so far."""

    def __init__(self, tables):
        self.plain = tables[0]
        self.behind = tables[1]
        self.deeds = tables[2]
        self.states = [0]
        # Over how many words each state of the stack stands, but for the first one.
        self.spans = []
        self.way = []

    def forked(self):
        """A reader that stands where this one stands, and goes on by itself."""
        other = Reader((self.plain, self.behind, self.deeds))
        other.states = list(self.states)
        other.spans = list(self.spans)
        other.way = list(self.way)
        return other

    def topmost(self):
        return self.states[-1]

    def settle(self, kind, number):
        """Does each reduce due ahead of the word of that kind and number; tells the deed due then, or Stuck."""
        deed = self.deed_for(kind, number)
        while deed[0] == "reduce":
            self.put_together(deed[1])
            deed = self.deed_for(kind, number)
        return deed

    def deed_for(self, kind, number):
        deed = self.deeds[self.topmost()].get(kind)
        if deed is None:
            raise Stuck(number)
        return deed

    def put_together(self, number):
        words = 0
        for part in self.plain[number][1]:
            self.states.pop()
            words += self.spans.pop()
        rule = self.plain[number][2]
        if rule != NO_RULE:
            self.way.append((rule, words, self.topmost()))
        self.lay(self.plain[number][0], words)

    def lay(self, symbol, words):
        """Lays on the state behind the symbol, which stands over so many words."""
        self.states.append(self.behind[self.topmost()][symbol])
        self.spans.append(words)

    def take(self, kind, number):
        """Takes the word of that kind and number, or Stuck."""
        self.settle(kind, number)
        self.way.append((WORD_STEP, 1, self.topmost()))
        self.lay(kind, 1)

    def take_whole(self, stretch, symbol):
        """Takes the words of a node whose way is known to be this stretch, the node itself being the last."""
        self.way.extend(stretch)
        self.lay(symbol, stretch[-1][1])

    def take_rest(self, ask, number, many):
        """Takes the words from that number on, to the row's end, or Stuck."""
        for k in range(number, many):
            self.take(ask(k), k)
        self.settle(END, many)


def read_row(tables, ask, many):
    """The way of the row, tuples (step, words, state), or Stuck."""
    reader = Reader(tables)
    reader.take_rest(ask, 0, many)
    return reader.way
