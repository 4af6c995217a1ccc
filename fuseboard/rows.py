"""Rows that a desk is told: words parted by single blanks, read to tuples."""

from fuseboard.kinds import is_name
from fuseboard.texts import read_number, read_pairs

# What stands behind a row's first word.
ROWS = {
    "go": ("number",),
    "fault": ("name", "number"),
    "on": ("name",),
    "off": ("name",),
    "open": ("name",),
    "close": ("name",),
    "dark": (),
    "draws": (),
    "sum": ("name",),
    "through": ("name",),
    "row": ("name",),
    "board": (),
    "map": ("name",),
    "least": (),
}
# What stands behind a change's first word, ahead of the pairs where it has such.
CHANGES = {
    "on": ("name",),
    "off": ("name",),
    "move": ("name", "name"),
    "load": ("name", "number"),
    "guard": ("name", "number", "number"),
}
WITH_PAIRS = ("load", "guard")


def read_row(thing):
    """What a row says, its first word ahead; ("change", change) of a change; None of a thing that is no row."""
    if not isinstance(thing, str):
        return None
    words = thing.split(" ")
    if words[0] != "change":
        return read_words(ROWS.get(words[0]), words)
    change = read_change(words[1:])
    return None if change is None else ("change", change)


def read_words(form, words):
    """A first word and what stands behind it, as a form has it; None where there is no form or it has it otherwise."""
    if form is None or len(form) != len(words) - 1:
        return None
    found = [words[0]]
    for kind, word in zip(form, words[1:]):
        thing = read_word(kind, word)
        if thing is None:
            return None
        found.append(thing)
    return tuple(found)


def read_word(kind, word):
    """A word as a thing of this kind, or None."""
    if kind == "number":
        return read_number(word)
    return word if is_name(word) else None


def read_change(words):
    """The change that these words tell, right or wrong for a board; None where they tell none."""
    form = CHANGES.get(words[0]) if words else None
    if form is None or words[0] not in WITH_PAIRS:
        return read_words(form, words)
    many = len(form) + 1
    told = read_words(form, words[:many])
    pairs = read_pairs(words[many:])
    if told is None or not are_numbers(pairs):
        return None
    # In a change the pairs stand behind the name, in a row behind all else.
    return told[:2] + (pairs,) + told[2:]


def are_numbers(pairs):
    """Whether pairs were read to numbers throughout."""
    return all([left is not None and right is not None for left, right in pairs])
