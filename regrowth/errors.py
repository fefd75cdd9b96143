"""The refusals of the program, one class for each."""


class GrowthError(ValueError):
    """Any refusal."""


class NoFit(GrowthError):
    """A change that does not fit the row that it changes, or a number that no piece has."""


class NoForm(GrowthError):
    """A text that writes no form."""


class NoRule(GrowthError):
    """A list of rules that is no grammar."""


class NoFloor(GrowthError):
    """A part above whose rank its sort has none."""


class Barren(GrowthError):
    """A grammar with a symbol from which no row of words comes."""


class Idle(GrowthError):
    """A grammar with a sort that is not reached."""


class TooLarge(GrowthError):
    """A grammar with too many states."""


class Clash(GrowthError):
    """A grammar with unlike deeds due for one kind in one state."""

    def __init__(self, state, kind):
        GrowthError.__init__(self, f"in state {state} unlike deeds are due for {kind!r}")
        self.state = state
        self.kind = kind


class Stuck(GrowthError):
    """A row of words that does not read."""

    def __init__(self, place):
        GrowthError.__init__(self, f"no deed is due at word {place}")
        self.place = place


class TooLong(GrowthError):
    """A text with too many signs."""


class NoRow(GrowthError):
    """A grammar's text with a row that is none of those that a grammar may have."""
