"""Boards: guards one under another and loads at them, whether a thing is one, and what is over and behind what."""

from fuseboard.curves import is_curve
from fuseboard.errors import NoBoard, NoPlace
from fuseboard.kinds import is_name, is_number

MOST_GUARDS = 16
MOST_LOADS = 24
MOST_OVER = 7
MOST_STRETCHES = 4


def looked(thing):
    """True of a board; of any other thing NoBoard with the first that is wrong in it."""
    if not is_outline(thing):
        raise NoBoard("board", 0)
    guards, loads = thing
    for at, guard in enumerate(guards):
        if not guard_fits(guards[:at], guard):
            raise NoBoard("guard", at)
    for at, load in enumerate(loads):
        if not load_fits(guards, loads[:at], load):
            raise NoBoard("load", at)
    return True


def is_outline(thing):
    """Whether a thing is a tuple of two tuples, of as many things as a board has guards and loads."""
    if not isinstance(thing, tuple) or len(thing) != 2:
        return False
    for part in thing:
        if not isinstance(part, tuple):
            return False
    return 1 <= len(thing[0]) <= MOST_GUARDS and len(thing[1]) <= MOST_LOADS


def guard_fits(ahead, thing):
    """Whether a thing is a guard that may stand behind these guards."""
    if not is_guard(thing) or thing[0] in names_of(ahead):
        return False
    under = thing[1]
    if under is None:
        return True
    return under in names_of(ahead) and len(climb(ahead, under)) <= MOST_OVER


def load_fits(guards, ahead, thing):
    """Whether a thing is a load that may stand at one of these guards, behind the loads ahead."""
    if not is_load(thing) or thing[1] not in names_of(guards):
        return False
    return thing[0] not in names_of(guards) and thing[0] not in names_of(ahead)


def is_guard(thing):
    """Whether a thing has the form of a guard, whatever else stands on the board."""
    if not isinstance(thing, tuple) or len(thing) != 5:
        return False
    name, under, curve, delay, wait = thing
    if not is_name(name) or not (under is None or is_name(under)):
        return False
    return is_curve(curve) and is_number(delay) and is_number(wait)


def is_load(thing):
    """Whether a thing has the form of a load, whatever else stands on the board."""
    if not isinstance(thing, tuple) or len(thing) != 5:
        return False
    name, at, course, last, switch = thing
    if not is_name(name) or not is_name(at):
        return False
    return is_course(course) and is_number(last) and (switch is True or switch is False)


def is_course(thing):
    """Whether a thing is a tuple of none to four stretches (turns, draw), none of them of no turns."""
    if not isinstance(thing, tuple) or len(thing) > MOST_STRETCHES:
        return False
    for stretch in thing:
        if not isinstance(stretch, tuple) or len(stretch) != 2:
            return False
        turns, draw = stretch
        if not is_number(turns) or turns == 0 or not is_number(draw):
            return False
    return True


def names_of(rows):
    """The names of guards, or of loads."""
    return [row[0] for row in rows]


def guards_of(board):
    """The names of the guards, in order."""
    return names_of(board[0])


def loads_of(board):
    """The names of the loads, in order."""
    return names_of(board[1])


def places_of(board):
    """The names of the guards, then of the loads."""
    return guards_of(board) + loads_of(board)


# What is handed in as a place may be any thing; only texts are held against
# the names, so nothing that can't be compared or counted is.

def has_guard(board, thing):
    """Whether a thing is the name of a guard of the board."""
    return isinstance(thing, str) and thing in guards_of(board)


def has_load(board, thing):
    """Whether a thing is the name of a load of the board."""
    return isinstance(thing, str) and thing in loads_of(board)


def has_place(board, thing):
    """Whether a thing is the name of a guard or a load of the board."""
    return has_guard(board, thing) or has_load(board, thing)


def climb(guards, name):
    """A guard and those over it, the nearest first."""
    unders = {guard[0]: guard[1] for guard in guards}
    found = []
    while name is not None:
        found.append(name)
        name = unders[name]
    return found


def over(board, place):
    """The guards over a place, the nearest first; a guard is over itself."""
    if not has_place(board, place):
        raise NoPlace("no such place")
    ats = {load[0]: load[1] for load in board[1]}
    return climb(board[0], ats.get(place, place))


def kids(board, guard):
    """The guards whose under is this one, in order."""
    if not has_guard(board, guard):
        raise NoPlace("no such guard")
    return [other[0] for other in board[0] if other[1] == guard]


def behind(board, guard):
    """The loads over which this guard is, in order."""
    if not has_guard(board, guard):
        raise NoPlace("no such guard")
    return [load[0] for load in board[1] if guard in climb(board[0], load[1])]
