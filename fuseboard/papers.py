"""Papers: a run told stretch by stretch, so that it can be looked at."""

from fuseboard.events import gone_with
from fuseboard.runs import Run


def paper_of(board, stuck, events, upto):
    """The stretches (begin, end, draws, opened) of a run with these events, up to a turn."""
    rows = gone_with(Run(board, stuck), events, upto)
    return [(begin, end, found, first_steps(ripe)) for begin, end, found, ripe in rows]


def first_steps(ripe):
    """The guards that open, each with the first of its full steps: (guard, step, since)."""
    return tuple([(guard, steps[0][0], steps[0][1]) for guard, steps in ripe])
