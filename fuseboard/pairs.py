"""Pairs: for how many turns an upper guard has to wait more than a lower one, and where the lower one is blind."""

from fuseboard.boards import guards_of
from fuseboard.curves import least_of
from fuseboard.maps import lows_of, spans_of, way_of


def pairs_of(board, most):
    """For each pair the most that its upper lacks for any fault at its lower: (lower, upper, more, greatness)."""
    found = []
    for lower in guards_of(board):
        way = way_of(board, lower)
        for at in range(1, len(way)):
            lack = greatest_lack(way, at, most)
            if lack is not None:
                found.append((lower, way[at][0][0], lack[0], lack[1]))
    return found


def greatest_lack(way, at, most):
    """What the guard at this place of a way lacks at most, and the least fault for which it does; or None."""
    best = None
    for low in lows_of(way, most):
        spans = spans_of(way, low)
        if spans[0] is not None and spans[at] is not None:
            lack = spans[0] - spans[at] + 1
            if best is None or lack > best[0]:
                best = (lack, low)
    return best


def blind(board, most):
    """The first blind pair and its least fault, (lower, upper, greatness); None where no pair is blind."""
    for lower in guards_of(board):
        way = way_of(board, lower)
        first = wakes_at(way[0])
        for row in way[1:]:
            if wakes_at(row) <= most and wakes_at(row) < first:
                return lower, row[0][0], wakes_at(row)
    return None


def wakes_at(row):
    """The least greatness by which a guard on a way, with its draw at rest, meets a step."""
    guard, drawn = row
    return least_of(guard[2]) - drawn
