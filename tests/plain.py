"""The one helper of the tests: the document's words said once more, as plainly and slowly as can be, and boards."""

GREATEST = 10 ** 60 - 1
TOO_GREAT = 10 ** 60

# Things of any kind that are no board, name, deed or place.
ODD_THINGS = (
    None, True, False, 0, 1, -1, GREATEST, TOO_GREAT, -TOO_GREAT, 10 ** 5000, 1.0, 2.5, float("nan"), 1j,
    "", " ", "A", "nobody", "a b", "\u00e9", "\u0430", "main\n", "0", "-", b"", b"main", (), [], {}, set(), frozenset(),
    (None,), ("main",), ["main"], {"main": 1}, {1: []}, [[]], ((), ()), ([], {}), range(2), object(), len, int,
    ValueError("x"),
)

TOP = ("main", None, ((100, 40), (200, 10), (400, 1)), 6, 7)
# Three levels, a second top, guards without loads, a load at a top, loads on and off.
HOUSE = (
    (
        TOP,
        ("up", "main", ((50, 20), (100, 5)), 3, 4),
        ("down", "main", ((40, 15),), 0, 2),
        ("attic", "up", ((10, 8), (30, 2)), 0, 0),
        ("spare", None, ((5, 3),), 1, 0),
        ("kitchen", "down", ((20, 4),), 0, 0),
        ("empty", "up", ((7, 7),), 2, 2),
    ),
    (
        ("lamp", "attic", (), 2, True),
        ("motor", "kitchen", ((2, 18), (3, 9)), 5, True),
        ("stove", "kitchen", (), 11, False),
        ("bell", "main", ((1, 0),), 1, True),
        ("heater", "spare", ((4, 4),), 3, False),
        ("fan", "up", ((1, 3), (1, 3), (2, 0)), 2, True),
    ),
)


def chain(many, curve=((1000, 1),)):
    """So many guards, each under the one ahead."""
    names = ["abcdefghijklmnopqrstuvwxyz"[at] for at in range(many)]
    return tuple((name, names[at - 1] if at else None, curve, 0, 0) for at, name in enumerate(names))


def small_board(rng, most_guards=6, most_loads=5, most=6):
    """A board of small numbers by chance."""
    guards = []
    for at in range(rng.randint(1, most_guards)):
        under = rng.choice([None] + [guard[0] for guard in guards] * 2)
        guards.append(("g" + "abcdefghijklmnop"[at], under, small_curve(rng, most), rng.choice((0, 0, 1, 2, 5)),
                       rng.choice((0, 0, 1, 3, 6))))
    loads = []
    for at in range(rng.randint(0, most_loads)):
        course = tuple((rng.randint(1, 4), rng.randint(0, most)) for _ in range(rng.randint(0, 4)))
        loads.append(("l" + "abcdefghijklmnopqrstuvwx"[at], rng.choice(guards)[0], course, rng.randint(0, most // 2),
                      rng.random() < 0.6))
    return tuple(guards), tuple(loads)


def small_curve(rng, most):
    many = rng.randint(1, 3)
    draws = sorted(rng.sample(range(1, 2 * most + 2), many))
    turns = sorted(rng.sample(range(1, 10), many), reverse=True)
    return tuple(zip(draws, turns))


# Points 9, 11 and 12.

def guard_named(board, name):
    return [guard for guard in board[0] if guard[0] == name][0]


def over(board, place):
    for load in board[1]:
        if load[0] == place:
            return over(board, load[1])
    under = guard_named(board, place)[1]
    return [place] + ([] if under is None else over(board, under))


def places(board):
    return [row[0] for row in board[0]] + [row[0] for row in board[1]]


def fed(board, opened, place):
    return not set(over(board, place)) & set(opened)


def draws(board, opened, pulls):
    return {guard[0]: sum(pull for place, pull in pulls.items()
                          if guard[0] in over(board, place) and fed(board, opened, place)) for guard in board[0]}


def awake(board, found):
    return [guard[0] for guard in board[0] if found[guard[0]] >= guard[2][0][0]]


def held(board, found, name):
    return any(guard[1] == name and guard[0] in awake(board, found) for guard in board[0])
