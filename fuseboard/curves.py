"""Curves: how long a guard stands which draw, as steps (draw, turns)."""

from fuseboard.kinds import is_number

MOST_STEPS = 5


def is_curve(thing):
    """Whether a thing, whatever it is, is a curve."""
    if not isinstance(thing, tuple) or not 1 <= len(thing) <= MOST_STEPS:
        return False
    for step in thing:
        if not is_step(step):
            return False
    for ahead, step in zip(thing, thing[1:]):
        if not follows(ahead, step):
            return False
    return True


def is_step(thing):
    """Whether a thing is a tuple (draw, turns) of two numbers from 1 on."""
    if not isinstance(thing, tuple) or len(thing) != 2:
        return False
    for part in thing:
        if not is_number(part) or part == 0:
            return False
    return True


def follows(ahead, step):
    """Whether a step may stand behind the one ahead: more is drawn, for fewer turns."""
    return ahead[0] < step[0] and ahead[1] > step[1]


def least_of(curve):
    """The least draw that meets a step of the curve."""
    return curve[0][0]


def met(curve, draw):
    """How many steps of the curve a draw meets; they are its first ones, as draws rise."""
    return len([step for step in curve if step[0] <= draw])


def turns_at(curve, draw):
    """The turns of the last step that a draw meets, or None where it meets none."""
    many = met(curve, draw)
    if many == 0:
        return None
    return curve[many - 1][1]
