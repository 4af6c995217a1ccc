"""Events: deeds with the turns in which they are done, and the openings that they lead to."""

from fuseboard.deeds import is_deed
from fuseboard.errors import NoEvent
from fuseboard.kinds import is_number
from fuseboard.runs import Run


def looked_events(board, events):
    """True of right events; else NoEvent with the place of the first that isn't."""
    ahead = 0
    for at, event in enumerate(events):
        if not is_event(board, event) or event[0] < ahead:
            raise NoEvent(at)
        ahead = event[0]
    return True


def is_event(board, thing):
    """Whether a thing is a tuple of a turn and a deed."""
    if not isinstance(thing, tuple) or len(thing) != 2:
        return False
    return is_number(thing[0]) and is_deed(board, thing[1])


def gone_to(run, turn):
    """The stretches by which a run goes on to a turn."""
    found = []
    while run.turn() < turn:
        found.append(run.stretch(turn))
    return found


def gone_with(run, events, upto):
    """The stretches by which a run goes on to a turn, with the events ahead of it done on the way."""
    found = []
    for turn, deed in events:
        if turn >= upto:
            break
        found.extend(gone_to(run, turn))
        run.do(deed)
    return found + gone_to(run, upto)


def openings_of(board, stuck, events, upto):
    """The openings when all turns below upto are over."""
    looked_events(board, events)
    run = Run(board, stuck)
    gone_with(run, events, upto)
    return run.openings()
