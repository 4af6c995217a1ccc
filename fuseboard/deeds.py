"""Deeds: what may be done at the begin of a turn of a run."""

from fuseboard.boards import has_guard, has_load, has_place
from fuseboard.kinds import is_number

SWITCHINGS = ("on", "off")
MOVINGS = ("open", "close")


def is_deed(board, thing):
    """Whether a thing, whatever it is, is a deed on this board."""
    if not isinstance(thing, tuple) or len(thing) < 2 or not isinstance(thing[0], str):
        return False
    word, place = thing[0], thing[1]
    if word == "fault":
        return len(thing) == 3 and has_place(board, place) and is_number(thing[2])
    if len(thing) != 2:
        return False
    if word in SWITCHINGS:
        return has_load(board, place)
    return word in MOVINGS and has_guard(board, place)
