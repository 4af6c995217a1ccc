"""Parting: whether faults open nothing but the nearest guard, and what opens where a guard is stuck."""

from fuseboard.boards import guards_of, over, places_of
from fuseboard.maps import lows_of, map_of, opening_at, way_of


def parted(board, most, stuck=None):
    """None where each fault opens at most the nearest guard not stuck; else the first that opens another."""
    for place in places_of(board):
        fault = astray(board, place, most, stuck)
        if fault is not None:
            return place, fault[0], fault[1]
    return None


def astray(board, place, most, stuck=None):
    """The least fault at a place that opens another guard than it should: (greatness, names), or None."""
    fixed = [] if stuck is None else stuck
    nearest = [name for name in over(board, place) if name not in fixed][:1]
    for low, high, opening in map_of(board, place, most, stuck):
        if opening is not None and opening[1] != tuple(nearest):
            return low, opening[1]
    return None


def backed(board, most):
    """For each guard (guard, fault): the first fault that opens it, and nothing where it is stuck; or None."""
    ways = {place: way_of(board, place) for place in places_of(board)}
    return [(guard, unbacked(ways, guard, most)) for guard in guards_of(board)]


def unbacked(ways, guard, most):
    """The first fault (place, greatness) on these ways that opens a guard, and nothing where it is stuck; or None."""
    for place in ways:
        way = ways[place]
        for low in lows_of(way, most):
            opening = opening_at(way, low, None)
            if opening is not None and guard in opening[1] and opening_at(way, low, [guard]) is None:
                return place, low
    return None
