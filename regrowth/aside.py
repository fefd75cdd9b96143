"""What is set aside of a row that does not read."""

from regrowth.errors import Stuck
from regrowth.reading import Reader

# Of longer rows no stretch is sought.
MOST_WORDS = 40


def aside_of(tables, kinds):
    """The shortest stretch without which the rest reads, (left, right); (0, 0) where nothing is set aside."""
    many = len(kinds)
    if many == 0 or reads_on(Reader(tables), kinds, 0):
        return (0, 0)
    if many > MOST_WORDS:
        return (0, many)
    heads = heads_of(tables, kinds)
    for size in range(1, many):
        for left in range(min(len(heads), many - size + 1)):
            if reads_on(heads[left], kinds, left + size):
                return (left, left + size)
    return (0, many)


def reads_on(head, kinds, right):
    """Whether the words from `right` on, behind those that the reader took, are a row that reads."""
    reader = head.forked()
    try:
        reader.take_rest(lambda k: kinds[k], right, len(kinds))
    except Stuck:
        return False
    return True


def heads_of(tables, kinds):
    """Readers that took the first 0, 1, 2 .. words, up to the first that can't be taken.

    A stretch farther right leaves all these words, and so never makes the row one that reads.
    """
    heads = [Reader(tables)]
    try:
        for number, kind in enumerate(kinds):
            reader = heads[-1].forked()
            reader.take(kind, number)
            heads.append(reader)
    except Stuck:
        return heads
    return heads
