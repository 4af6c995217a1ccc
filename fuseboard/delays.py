"""Delays: the least ones with which faults open nothing but the nearest guard, and what needs them."""

from fuseboard.boards import guards_of
from fuseboard.errors import Blind
from fuseboard.pairs import blind, pairs_of


def least_delays(board, most):
    """Each guard's least delay; refused with Loud, then with Blind."""
    return least_by(board, seeing_pairs(board, most))


def needs(board, most):
    """For each guard whose least delay is above 0 the first fault that needs it: (guard, lower, greatness)."""
    pairs = seeing_pairs(board, most)
    least = least_by(board, pairs)
    found = []
    for guard in guards_of(board):
        faults = [(guard, lower, greatness) for lower, upper, more, greatness in pairs
                  if upper == guard and least[lower] + more == least[guard]]
        if least[guard] > 0:
            found.append(faults[0])
    return found


def with_delays(board, delays):
    """The board with these delays of its guards instead of its own."""
    guards, loads = board
    return tuple([(name, under, curve, delays[name], wait) for name, under, curve, delay, wait in guards]), loads


def seeing_pairs(board, most):
    """The pairs of a board of which none is blind; else refused with Blind."""
    pair = blind(board, most)
    if pair is not None:
        raise Blind(pair[0], pair[1], pair[2])
    return pairs_of(board, most)


def least_by(board, pairs):
    """The least delays of which each upper's is no less than its lower's and what it lacks."""
    least = {name: 0 for name in guards_of(board)}
    # A lower stands behind its uppers: from the last guard on, its own delay is settled when it is needed.
    for name in reversed(guards_of(board)):
        for lower, upper, more, greatness in pairs:
            if upper == name:
                least[name] = max(least[name], least[lower] + more)
    return least
