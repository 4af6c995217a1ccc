"""The refusals: all of them are BoardError, and none is under another one."""


class BoardError(ValueError):
    """Any refusal."""


# The fields may be any things, numbers too great to be written among them,
# so no message is made of them: they are kept as they are.

class NoBoard(BoardError):
    """A thing is no board: by its word and number, the first that is wrong in it."""

    def __init__(self, word, number):
        self.word = word
        self.number = number


class NoText(BoardError):
    """A thing is no board's text: from this line on."""

    def __init__(self, line):
        self.line = line


class NoEvent(BoardError):
    """Events are not right: the one with this number is the first that isn't."""

    def __init__(self, number):
        self.number = number


class Loud(BoardError):
    """A board isn't quiet: this guard is the first that is awake at rest."""

    def __init__(self, guard):
        self.guard = guard


class Blind(BoardError):
    """A pair is blind: by a fault of this greatness the upper meets a step and the lower none."""

    def __init__(self, lower, upper, greatness):
        self.lower = lower
        self.upper = upper
        self.greatness = greatness


class NoPlace(BoardError):
    """A place, guard or load is none of the board's."""


class NoDeed(BoardError):
    """A thing is no deed, or no change."""


class NoTurn(BoardError):
    """A turn is less than the one that is now."""


class NoRow(BoardError):
    """A thing is no row that a desk answers."""
