"""What kind of thing a thing is, for all modules alike."""

NUMBERS_END = 10 ** 60


def is_number(thing):
    """Whether a thing is a whole number from 0 on of at most sixty figures."""
    # A truth is an int to Python, but no number here.
    if isinstance(thing, bool) or not isinstance(thing, int):
        return False
    return 0 <= thing < NUMBERS_END
