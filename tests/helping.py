"""What several tests need: functions to ask that keep what they were asked, and changes of rows."""

import random


def kept_ask(row):
    """A function that tells the things of the row, and the dict of the numbers that it was asked for."""
    asked = {}

    def ask(k):
        if isinstance(k, bool) or not isinstance(k, int) or not 0 <= k < len(row):
            raise AssertionError(f"asked for {k!r} of {len(row)} things")
        asked[k] = True
        return row[k]

    return ask, asked


def changed(row, at, gone, put):
    return row[:at] + put + row[at + gone:]


def each_change(row, puts):
    """Every change of the row by which one of `puts` comes: (at, gone, put, new row)."""
    for at in range(len(row) + 1):
        for gone in range(len(row) - at + 1):
            for put in puts:
                yield at, gone, put, changed(row, at, gone, put)


def some_changes(row, things, seed, many, longest):
    """A row of changes one behind another, always the same for the same seed: (at, gone, put, new row)."""
    chance = random.Random(seed)
    for _ in range(many):
        at = chance.randint(0, len(row))
        gone = chance.choice([0, 0, 1, 2, chance.randint(0, 6), len(row) - at])
        gone = min(gone, len(row) - at)
        come = chance.choice([0, 1, 1, 2, 3, chance.randint(0, 8)])
        come = min(come, max(0, longest - len(row) + gone))
        put = row[:0]
        for _ in range(come):
            put = put + thing_of(chance, things, row)
        row_new = changed(row, at, gone, put)
        yield at, gone, put, row_new
        row = row_new


def thing_of(chance, things, row):
    thing = chance.choice(things)
    return thing if isinstance(row, str) else [thing]


BIG = 10 ** 59


def unfit(many_old, many_new):
    """Changes (at, gone, come) that do not fit a row of so many things that became one of so many."""
    come = many_new - many_old
    fitting = (0, 0, come) if come >= 0 else (0, -come, 0)
    at, gone, come = fitting
    return [
        (-1, gone, come), (at, -1, come), (at, gone, -1),
        (-1, gone + 1, come + 1), (-BIG, gone, come), (at, -BIG, come), (at, gone, -BIG),
        (at, -1, come - 1), (at, gone - 1, -1),
        (many_old + 1, 0, many_new - many_old), (many_old, 1, many_new - many_old + 1),
        (0, many_old + 1, many_new + 1), (BIG, 0, many_new - many_old), (0, BIG, BIG),
        (at, gone, come + 1), (at, gone + 1, come), (at, gone, BIG), (BIG, BIG, BIG),
        (many_old + 1, -1, come), (BIG, -BIG, come),
    ]
