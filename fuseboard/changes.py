"""Changes: what a board may be changed by, and the board behind a change."""

from fuseboard.boards import has_guard, has_load, is_course
from fuseboard.curves import is_curve
from fuseboard.deeds import SWITCHINGS, is_deed
from fuseboard.kinds import is_number


def is_change(board, thing):
    """Whether a thing, whatever it is, is a change of this board."""
    if not isinstance(thing, tuple) or not thing:
        return False
    if thing[0] in SWITCHINGS:
        return is_deed(board, thing)
    if thing[0] == "guard":
        return is_new_guard(board, thing)
    if thing[0] == "load":
        return is_new_load(board, thing)
    return thing[0] == "move" and len(thing) == 3 and has_load(board, thing[1]) and has_guard(board, thing[2])


def is_new_guard(board, thing):
    """Whether a tuple tells a guard of the board with a curve, a delay and a wait."""
    if len(thing) != 5 or not has_guard(board, thing[1]):
        return False
    return is_curve(thing[2]) and is_number(thing[3]) and is_number(thing[4])


def is_new_load(board, thing):
    """Whether a tuple tells a load of the board with a course and a last."""
    return len(thing) == 4 and has_load(board, thing[1]) and is_course(thing[2]) and is_number(thing[3])


def changed(board, change):
    """The board behind a change."""
    guards, loads = board
    name = change[1]
    if change[0] == "guard":
        return tuple([new_guard(guard, change) if guard[0] == name else guard for guard in guards]), loads
    return guards, tuple([new_load(load, change) if load[0] == name else load for load in loads])


def new_guard(guard, change):
    """A guard with the curve, delay and wait of a change."""
    return guard[0], guard[1], change[2], change[3], change[4]


def new_load(load, change):
    """A load as a change tells it anew, moves it or switches it."""
    name, at, course, last, switch = load
    if change[0] == "load":
        return name, at, change[2], change[3], switch
    if change[0] == "move":
        return name, change[2], course, last, switch
    return name, at, course, last, change[0] == "on"
