"""Draws: which places are fed, what is drawn through each guard, and who is awake and held by it."""

from fuseboard.boards import has_guard, over
from fuseboard.curves import least_of
from fuseboard.errors import Loud, NoPlace


def fed(board, opened, place):
    """Whether no guard over a place is open."""
    for guard in over(board, place):
        if guard in opened:
            return False
    return True


def fed_guards(board, opened):
    """Of each guard whether it is fed."""
    apart = set(opened)
    found = {}
    for guard in board[0]:
        name, under = guard[0], guard[1]
        # A guard's under stands ahead of it, so it is told already.
        found[name] = name not in apart and (under is None or found[under])
    return found


def draws(board, opened, pulls):
    """Each guard's draw by what is pulled at the places, with these guards open."""
    return draws_fed(board, fed_guards(board, opened), pulls)


def draws_fed(board, lit, pulls):
    """Each guard's draw where it is told of each guard whether it is fed."""
    found = {guard[0]: pulls.get(guard[0], 0) for guard in board[0]}
    for load in board[1]:
        found[load[1]] += pulls.get(load[0], 0)
    # From the last guard on, each has all of its kids' draws when it is its turn.
    for guard in reversed(board[0]):
        name, under = guard[0], guard[1]
        if not lit[name]:
            found[name] = 0
        elif under is not None:
            found[under] += found[name]
    return found


def rest(board):
    """Each guard's draw at rest."""
    return draws(board, [], {load[0]: load[3] for load in board[1] if load[4]})


def awake(board, found):
    """The guards whose draws are no less than the least of their curves, in order."""
    return [guard[0] for guard in board[0] if found[guard[0]] >= least_of(guard[2])]


def held_guards(board, found):
    """A dict with just the guards that are held."""
    names = awake(board, found)
    return {guard[1]: True for guard in board[0] if guard[0] in names and guard[1] is not None}


def held(board, found, guard):
    """Whether one of a guard's kids is awake."""
    if not has_guard(board, guard):
        raise NoPlace("no such guard")
    return guard in held_guards(board, found)


def loud(board):
    """The first guard that is awake at rest; None where the board is quiet."""
    names = awake(board, rest(board))
    return names[0] if names else None


def quiet_rest(board):
    """Each guard's draw at rest of a quiet board; else refused with Loud."""
    first = loud(board)
    if first is not None:
        raise Loud(first)
    return rest(board)
