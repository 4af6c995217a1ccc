"""Boards as texts: a line for each guard, then a line for each load."""

from fuseboard.boards import MOST_GUARDS, MOST_LOADS, guard_fits, load_fits
from fuseboard.errors import NoText

FIGURES = "0123456789"
MOST_FIGURES = 60
SWITCHES = {"on": True, "off": False}


def show_board(board):
    """A board's lines, with a line end between two."""
    guards, loads = board
    return "\n".join([guard_line(guard) for guard in guards] + [load_line(load) for load in loads])


def guard_line(guard):
    """The line of a guard."""
    name, under, curve, delay, wait = guard
    words = ["guard", name, "-" if under is None else under, str(delay), str(wait)]
    return " ".join(words + pair_words(curve))


def load_line(load):
    """The line of a load."""
    name, at, course, last, switch = load
    words = ["load", name, at, "on" if switch else "off", str(last)]
    return " ".join(words + pair_words(course))


def pair_words(pairs):
    """Steps or stretches as words."""
    return [f"{left}:{right}" for left, right in pairs]


def read_board(text):
    """The board that is written so; of any other thing NoText with the first line that can't stand there."""
    if not isinstance(text, str):
        raise NoText(0)
    guards = []
    loads = []
    # Lines up to some line begin a board just where they are one themselves,
    # so each line need only be held against those ahead.
    for at, line in enumerate(text.split("\n")):
        guard = read_guard(line)
        load = read_load(line)
        if not loads and len(guards) < MOST_GUARDS and guard_fits(guards, guard):
            guards.append(guard)
        elif len(loads) < MOST_LOADS and load_fits(guards, loads, load):
            loads.append(load)
        else:
            raise NoText(at)
    return tuple(guards), tuple(loads)


# What a wrong word is read to is none of the things that may stand there,
# so that guard_fits and load_fits refuse the whole.

def read_guard(line):
    """What a guard's line says, right or wrong; None where it can't be a guard's."""
    words = line.split(" ")
    if words[0] != "guard" or len(words) < 5:
        return None
    under = None if words[2] == "-" else words[2]
    return words[1], under, read_pairs(words[5:]), read_number(words[3]), read_number(words[4])


def read_load(line):
    """What a load's line says, right or wrong; None where it can't be a load's."""
    words = line.split(" ")
    if words[0] != "load" or len(words) < 5:
        return None
    return words[1], words[2], read_pairs(words[5:]), read_number(words[4]), SWITCHES.get(words[3])


def read_pairs(words):
    """Steps or stretches as their words say them."""
    pairs = []
    for word in words:
        left, colon, right = word.partition(":")
        pairs.append((read_number(left), read_number(right)))
    return tuple(pairs)


def read_number(word):
    """The number that is written so, or None."""
    if not 1 <= len(word) <= MOST_FIGURES or (word[0] == "0" and word != "0"):
        return None
    for sign in word:
        if sign not in FIGURES:
            return None
    return int(word)
