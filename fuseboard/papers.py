"""Papers: a run told stretch by stretch, so that it can be looked at."""

from fuseboard.events import gone_with
from fuseboard.runs import Run


def paper_of(board, stuck, events, upto):
    """The stretches (begin, end, draws, opened) of a run with these events, up to a turn."""
    return gone_with(Run(board, stuck), events, upto)
