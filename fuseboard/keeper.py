"""A keeper: a board and a row for each place, and what a change of the board changes in them."""

from fuseboard.boards import places_of
from fuseboard.changes import changed, is_change
from fuseboard.draws import loud, rest
from fuseboard.errors import NoDeed
from fuseboard.parting import astray


def rows_of(board, most):
    """The row (draw, verdict) of each place, in order."""
    drawn = rest(board)
    for load in board[1]:
        drawn[load[0]] = load[3] if load[4] else 0
    first = loud(board)
    return {place: (drawn[place], verdict_of(board, place, most, first)) for place in places_of(board)}


def verdict_of(board, place, most, first):
    """What is told of the faults at a place, where this guard is the first awake one at rest, or None."""
    if first is not None:
        return "awake", first
    fault = astray(board, place, most)
    if fault is None:
        return ("parted",)
    return "not", fault[0], fault[1]


class Keeper:
    """Keeps a board and the rows of its places, for faults up to a greatness."""

    def __init__(self, board, most):
        self.plan = board
        self.most = most
        self.kept = rows_of(board, most)

    def board(self):
        """The board as it is now."""
        return self.plan

    def rows(self):
        """The row of each place."""
        return dict(self.kept)

    def change(self, deed):
        """The places, in order, whose rows are others behind a change."""
        if not is_change(self.plan, deed):
            raise NoDeed("no such change")
        ahead = self.kept
        self.plan = changed(self.plan, deed)
        self.kept = rows_of(self.plan, self.most)
        return [place for place in places_of(self.plan) if self.kept[place] != ahead[place]]
