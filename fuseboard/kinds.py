"""What kind of thing a thing is, for all modules alike."""

NUMBERS_END = 10 ** 60
LONGEST_NAME = 8


def is_whole(thing):
    """Whether a thing is a whole number, of any size."""
    # A truth is an int to Python, but no number here.
    return isinstance(thing, int) and not isinstance(thing, bool)


def is_number(thing):
    """Whether a thing is a whole number from 0 on of at most sixty figures."""
    return is_whole(thing) and 0 <= thing < NUMBERS_END


def is_name(thing):
    """Whether a thing is a text of one to eight small letters, a to z."""
    if not isinstance(thing, str) or not 1 <= len(thing) <= LONGEST_NAME:
        return False
    # Small letters of other alphabets are none here, so islower won't do.
    for sign in thing:
        if not "a" <= sign <= "z":
            return False
    return True
