"""Maps: which guards a fault opens that comes at rest, and when, for each greatness of it."""

from fuseboard.boards import over
from fuseboard.curves import turns_at
from fuseboard.draws import quiet_rest


def opening_of(board, place, greatness, stuck=None):
    """The opening (turn, names) of a fault of this greatness at a place; None where nothing opens."""
    return opening_at(way_of(board, place), greatness, stuck)


def map_of(board, place, most, stuck=None):
    """The rows (low, high, opening) of a place, for all greatnesses from 1 to most."""
    way = way_of(board, place)
    lows = lows_of(way, most)
    rows = []
    for low, beyond in zip(lows, lows[1:] + [most + 1]):
        opening = opening_at(way, low, stuck)
        # Another step may be met and yet nothing else open: such rows are one.
        begin = rows.pop()[0] if rows and rows[-1][2] == opening else low
        rows.append((begin, beyond - 1, opening))
    return rows


def lets_through(board, place, most, stuck=None):
    """The greatest product of greatness and turns of faults that open anything: (product, greatness)."""
    best = None
    for low, high, opening in map_of(board, place, most, stuck):
        # Within a row the turns are the same, so its greatest fault has its greatest product.
        if opening is not None and (best is None or high * (opening[0] + 1) > best[0]):
            best = (high * (opening[0] + 1), high)
    return best


# At rest of a quiet board no guard is awake, and a fault is drawn only through
# the guards over its place: just these may open, and just the one ahead on this
# way may hold a guard.

def way_of(board, place):
    """The guards through which a fault at a place is drawn, the nearest first, each with its draw at rest."""
    names = over(board, place)
    found = quiet_rest(board)
    # A fault at a load that is off isn't drawn at all.
    if place in [load[0] for load in board[1] if not load[4]]:
        return []
    guards = {guard[0]: guard for guard in board[0]}
    return [(guards[name], found[name]) for name in names]


def lows_of(way, most):
    """The greatnesses up to most, rising, from which on another step is met on a way; 1 ahead of all."""
    lows = [step[0] - drawn for guard, drawn in way for step in guard[2]]
    return sorted(set([1] + [low for low in lows if low <= most]))


def spans_of(way, greatness):
    """In how many turns a fault opens each guard on a way, but for its delay and the others; None where never."""
    spans = []
    for at, (guard, drawn) in enumerate(way):
        span = turns_at(guard[2], drawn + greatness)
        if span is not None and at > 0 and spans[at - 1] is not None:
            span += guard[4]
        spans.append(span)
    return spans


def opening_at(way, greatness, stuck):
    """The opening of a fault of this greatness that is drawn on a way."""
    fixed = [] if stuck is None else stuck
    ends = {}
    for (guard, drawn), span in zip(way, spans_of(way, greatness)):
        if span is not None and guard[0] not in fixed:
            ends[guard[0]] = span + guard[3]
    if not ends:
        return None
    first = min(ends.values())
    # The way goes up, and guards stand behind those over them.
    return first - 1, tuple([name for name in reversed(list(ends)) if ends[name] == first])
