"""Looking at papers: whether a thing tells a run as it is, stretch by stretch."""

from fuseboard.kinds import is_whole
from fuseboard.runs import Run


def lets_by(board, stuck, events, upto, thing):
    """Whether a thing, whatever it is, is a paper of a run with these events, up to a turn."""
    if not isinstance(thing, list):
        return False
    run = Run(board, stuck)
    for row in thing:
        if not is_stretch(row) or not goes_so(run, events, row):
            return False
    # A run doesn't go back: of a stretch beyond upto it is told here, too.
    return run.turn() == upto


def is_stretch(thing):
    """Whether a thing has the form (begin, end, draws, opened) of a stretch, begin below end."""
    if not isinstance(thing, tuple) or len(thing) != 4:
        return False
    begin, end, found, opened = thing
    if not is_whole(begin) or not is_whole(end) or not isinstance(found, tuple) or not isinstance(opened, tuple):
        return False
    # A truth or a number of another kind may be equal to a whole number, so each one's kind is asked.
    return begin < end and all([is_whole(draw) for draw in found]) and all([is_opened(row) for row in opened])


def is_opened(thing):
    """Whether a thing has the form (guard, step, since), whatever stands for the guard."""
    return isinstance(thing, tuple) and len(thing) == 3 and is_whole(thing[1]) and is_whole(thing[2])


def goes_so(run, events, row):
    """Whether a run goes on as a stretch tells; it has gone on then, with the events of the stretch's first turn."""
    begin, end, found, opened = row
    if begin != run.turn():
        return False
    for turn, deed in events:
        if begin < turn < end:
            return False
        if turn == begin:
            run.do(deed)
    # The run's own stretch is over ahead of end just where a guard opens or a course goes on ahead of it.
    told = run.stretch(end)
    return told[1] == end and told[2] == found and are_ripe(told[3], opened)


def are_ripe(ripe, opened):
    """Whether just these guards are told, in order, each with one of its full steps."""
    if len(ripe) != len(opened):
        return False
    for (guard, steps), row in zip(ripe, opened):
        if row[0] != guard or (row[1], row[2]) not in steps:
            return False
    return True
