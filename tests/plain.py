"""The one helper of the tests: the document's words said once more, as plainly and slowly as can be, and boards."""

import functools

GREATEST = 10 ** 60 - 1
TOO_GREAT = 10 ** 60

# Things of any kind that are no board, name, deed or place.
ODD_THINGS = (
    None, True, False, 0, 1, -1, GREATEST, TOO_GREAT, -TOO_GREAT, 10 ** 5000, 1.0, 2.5, float("nan"), 1j,
    "", " ", "A", "nobody", "a b", "\u00e9", "\u0430", "main\n", "0", "-", b"", b"main", (), [], {}, set(), frozenset(),
    (None,), ("main",), ["main"], {"main": 1}, {1: []}, [[]], ((), ()), ([], {}), range(2), object(), len, int,
    ValueError("x"),
)

TOP = ("main", None, ((100, 40), (200, 10), (400, 1)), 6, 7)
# Three levels, a second top, guards without loads, a load at a top, loads on and off.
HOUSE = (
    (
        TOP,
        ("up", "main", ((50, 20), (100, 5)), 3, 4),
        ("down", "main", ((40, 15),), 0, 2),
        ("attic", "up", ((10, 8), (30, 2)), 0, 0),
        ("spare", None, ((5, 3),), 1, 0),
        ("kitchen", "down", ((20, 4),), 0, 0),
        ("empty", "up", ((7, 7),), 2, 2),
    ),
    (
        ("lamp", "attic", (), 2, True),
        ("motor", "kitchen", ((2, 18), (3, 9)), 5, True),
        ("stove", "kitchen", (), 11, False),
        ("bell", "main", ((1, 0),), 1, True),
        ("heater", "spare", ((4, 4),), 3, False),
        ("fan", "up", ((1, 3), (1, 3), (2, 0)), 2, True),
    ),
)


def chain(many, curve=((1000, 1),)):
    """So many guards, each under the one ahead."""
    names = ["abcdefghijklmnopqrstuvwxyz"[at] for at in range(many)]
    return tuple((name, names[at - 1] if at else None, curve, 0, 0) for at, name in enumerate(names))


def small_board(rng, most_guards=6, most_loads=5, most=6):
    """A board of small numbers by chance."""
    guards = []
    for at in range(rng.randint(1, most_guards)):
        under = rng.choice([None] + [guard[0] for guard in guards] * 2)
        guards.append(("g" + "abcdefghijklmnop"[at], under, small_curve(rng, most), rng.choice((0, 0, 1, 2, 5)),
                       rng.choice((0, 0, 1, 3, 6))))
    loads = []
    for at in range(rng.randint(0, most_loads)):
        course = tuple((rng.randint(1, 4), rng.randint(0, most)) for _ in range(rng.randint(0, 4)))
        loads.append(("l" + "abcdefghijklmnopqrstuvwx"[at], rng.choice(guards)[0], course, rng.randint(0, most // 2),
                      rng.random() < 0.6))
    return tuple(guards), tuple(loads)


def pair_board(wait=0, low_curve=((10, 6), (40, 2)), delays=(0, 0)):
    """A top and a guard low under it; by faults at low top is awake from 15 on, low with this curve from 7 on."""
    guards = (("top", None, ((20, 9), (30, 4), (60, 1)), delays[0], wait), ("low", "top", low_curve, delays[1], 77))
    return guards, (("lamp", "low", (), 3, True), ("fan", "top", (), 2, True), ("stove", "low", (), 70, False))


def noisy(board):
    """A board with a load more, by which the last guard and those over it are awake at rest."""
    return board[0], board[1] + (("noise", board[0][-1][0], (), 10 ** 6, True),)


def small_and_large(rng, great):
    """A board of small numbers, and the same with all turns so many times as great."""
    # Without waits no counts are full ahead of an opening, so a run's turns grow just like the board's.
    guards, loads = small_board(rng)
    small = (tuple((*guard[:4], 0) for guard in guards), loads)
    large = (tuple((name, under, tuple((draw, turns * great) for draw, turns in curve), delay * great, 0)
                   for name, under, curve, delay, wait in guards),
             tuple((name, at, tuple((turns * great, draw) for turns, draw in course), last, switch)
                   for name, at, course, last, switch in loads))
    return small, large


def small_curve(rng, most):
    many = rng.randint(1, 3)
    draws = sorted(rng.sample(range(1, 2 * most + 2), many))
    turns = sorted(rng.sample(range(1, 10), many), reverse=True)
    return tuple(zip(draws, turns))


# Places deep in lists and tuples of tuples.

def paths(thing, ahead=()):
    """All places in a list or tuple, however deep, that of the whole ahead."""
    found = [ahead]
    if isinstance(thing, (list, tuple)):
        for at, part in enumerate(thing):
            found += paths(part, ahead + (at,))
    return found


def at_path(thing, path):
    for at in path:
        thing = thing[at]
    return thing


def put(thing, path, part):
    """A list or tuple with another part at a place deep in it."""
    if not path:
        return part
    parts = list(thing)
    parts[path[0]] = put(parts[path[0]], path[1:], part)
    return parts if isinstance(thing, list) else tuple(parts)


# Points 9, 11 and 12.

def guard_named(board, name):
    return [guard for guard in board[0] if guard[0] == name][0]


def over(board, place):
    for load in board[1]:
        if load[0] == place:
            return over(board, load[1])
    under = guard_named(board, place)[1]
    return [place] + ([] if under is None else over(board, under))


def places(board):
    return [row[0] for row in board[0]] + [row[0] for row in board[1]]


def fed(board, opened, place):
    return not set(over(board, place)) & set(opened)


def draws(board, opened, pulls):
    return {guard[0]: sum(pull for place, pull in pulls.items()
                          if guard[0] in over(board, place) and fed(board, opened, place)) for guard in board[0]}


def awake(board, found):
    return [guard[0] for guard in board[0] if found[guard[0]] >= guard[2][0][0]]


def held(board, found, name):
    return any(guard[1] == name and guard[0] in awake(board, found) for guard in board[0])


# Points 13 to 17, turn by turn.

class PlainRun:
    """A run gone turn by turn, with a record of each turn that is over."""

    def __init__(self, board, stuck=()):
        self.board = board
        self.stuck = stuck
        self.now = 0
        self.opened = set()
        self.on = {load[0]: load[4] for load in board[1]}
        self.faults = {place: 0 for place in places(board)}
        self.counts = {guard[0]: [0] * len(guard[2]) for guard in board[0]}
        self.drawing = {load[0]: load[4] for load in board[1]}
        # How many turns of its course each load has behind it: more than any course has, at the beginning.
        self.age = {load[0]: 10 ** 9 for load in board[1]}
        self.openings = []
        self.turns = []

    def fed(self, place):
        return fed(self.board, self.opened, place)

    def do(self, deed):
        if deed[0] == "fault":
            self.faults[deed[1]] = deed[2]
        if deed[0] in ("on", "off"):
            self.on[deed[1]] = deed[0] == "on"
        if deed[0] == "open":
            self.opened.add(deed[1])
        if deed[0] == "close":
            self.opened.discard(deed[1])
        self.look()

    def look(self):
        """What is so from the moment on in which a guard is not fed, or a load comes to be on and fed."""
        for guard in self.board[0]:
            if not self.fed(guard[0]):
                self.counts[guard[0]] = [0] * len(guard[2])
        for load in self.board[1]:
            drawing = self.on[load[0]] and self.fed(load[0])
            if drawing and not self.drawing[load[0]]:
                self.age[load[0]] = 0
            self.drawing[load[0]] = drawing

    def stage(self, load):
        """Which stretch of its course a load is at, and what it draws in it."""
        turns = [(at, draw) for at, (many, draw) in enumerate(load[2]) for _ in range(many)]
        age = self.age[load[0]]
        return turns[age] if age < len(turns) else (len(load[2]), load[3])

    def pulls(self):
        found = {guard[0]: self.faults[guard[0]] for guard in self.board[0]}
        for load in self.board[1]:
            found[load[0]] = self.faults[load[0]] if self.on[load[0]] else 0
            if self.drawing[load[0]]:
                found[load[0]] += self.stage(load)[1]
        return found

    def draws(self):
        return draws(self.board, self.opened, self.pulls())

    def closed(self):
        return [guard[0] for guard in self.board[0] if guard[0] not in self.opened]

    def dark(self):
        return [load[0] for load in self.board[1] if self.on[load[0]] and not self.fed(load[0])]

    def one_turn(self):
        """The turn that is now is over then."""
        found, pulls = self.draws(), self.pulls()
        record = {
            "draws": found,
            "straight": {place: pulls[place] if self.fed(place) else 0 for place in pulls},
            "dark": self.dark(),
            "stages": {load[0]: self.stage(load)[0] for load in self.board[1] if self.drawing[load[0]]},
            "opened": {},
        }
        for name, _, curve, delay, wait in self.board[0]:
            if name in self.opened:
                continue
            self.counts[name] = [count + 1 if found[name] >= step[0] else 0
                                 for count, step in zip(self.counts[name], curve)]
            more = delay + (wait if held(self.board, found, name) else 0)
            full = [(at, self.now + 1 - count) for at, count in enumerate(self.counts[name])
                    if count >= curve[at][1] + more]
            if full and name not in self.stuck:
                record["opened"][name] = full
        for load in self.age:
            self.age[load] += 1
        self.turns.append(record)
        if record["opened"]:
            self.openings.append((self.now, tuple(record["opened"])))
            self.opened |= set(record["opened"])
            self.look()
        self.now += 1

    def go(self, turn):
        while self.now < turn:
            self.one_turn()

    def through(self, guard):
        return sum(record["draws"][guard] for record in self.turns)

    def drawn(self, place):
        return sum(record["straight"][place] for record in self.turns)

    def darkness(self, load):
        turns = [at for at, record in enumerate(self.turns) if load in record["dark"]]
        firsts = [at for at in turns if at - 1 not in turns]
        lasts = [at for at in turns if at + 1 not in turns]
        return list(zip(firsts, lasts))


def plain_run(board, stuck, events, upto):
    """A plain run gone up to a turn, with the events ahead of it."""
    run = PlainRun(board, stuck or ())
    for turn, deed in events:
        if turn < upto:
            run.go(turn)
            run.do(deed)
    run.go(upto)
    return run


def some_deed(rng, board, most=12):
    """A deed by chance."""
    word = rng.choice(("fault", "fault", "on", "on", "off", "close", "close", "open"))
    if word == "fault":
        return word, rng.choice(places(board)), rng.choice((0, rng.randint(1, 3), rng.randint(1, most)))
    rows = board[1] if word in ("on", "off") and board[1] else board[0]
    if rows == board[0] and word in ("on", "off"):
        word = "close"
    return word, rng.choice(rows)[0]


def some_events(rng, board, most_many=12, most_turn=30):
    """Events by chance, some of them in one turn."""
    turns = sorted(rng.randint(0, most_turn) for _ in range(rng.randint(0, most_many)))
    return [(turn, some_deed(rng, board)) for turn in turns]


def some_stuck(rng, board):
    """Some stuck guards by chance: None, or a list or tuple, perhaps with some more than once."""
    names = [guard[0] for guard in board[0]]
    return rng.choice((None, [], (), [rng.choice(names)], (rng.choice(names),) * 2))


# Points 12 and 20 to 24, greatness by greatness.

def rest(board):
    return draws(board, (), {load[0]: load[3] for load in board[1] if load[4]})


def quiet_board(rng, most_guards=5, most_loads=4, most=4):
    """A quiet board of small numbers by chance: curves of guards that were awake begin above what they draw."""
    guards, loads = small_board(rng, most_guards, most_loads, most)
    found = rest((guards, loads))
    noisy = awake((guards, loads), found)
    return tuple((name, under, tuple((draw + found[name] * (name in noisy), turns) for draw, turns in curve), delay, wait)
                 for name, under, curve, delay, wait in guards), loads


@functools.lru_cache(maxsize=None)
def opening(board, place, greatness, stuck=()):
    """The first opening of a run gone turn by turn, in which a fault comes at turn 0; None where none comes."""
    run = PlainRun(board, stuck)
    run.do(("fault", place, greatness))
    longest = max(curve[0][1] + delay + wait for _, _, curve, delay, wait in board[0])
    while not run.openings and run.now < longest:
        run.one_turn()
    return run.openings[0] if run.openings else None


def astray(board, place, most, stuck=()):
    """The least fault at a place that opens another guard than the nearest, and what it opens; or None."""
    nearest = [name for name in over(board, place) if name not in stuck][:1]
    for greatness in range(1, most + 1):
        told = opening(board, place, greatness, tuple(stuck))
        if told is not None and told[1] != tuple(nearest):
            return greatness, told[1]
    return None


# Points 25 and 26.

def turns_at(curve, draw):
    return ([None] + [turns for least, turns in curve if least <= draw])[-1]


def fault_draws(board, place, greatness):
    """The draws at rest with a fault at a guard."""
    pulls = {load[0]: load[3] for load in board[1] if load[4]}
    return draws(board, (), {**pulls, place: greatness})


def lacks(board, lower, upper, most):
    """What the upper lacks for each fault at the lower by which both meet a step: (lack, greatness)."""
    low, high = guard_named(board, lower), guard_named(board, upper)
    found = []
    for greatness in range(1, most + 1):
        drawn = fault_draws(board, lower, greatness)
        sooner, later = turns_at(low[2], drawn[lower]), turns_at(high[2], drawn[upper])
        if sooner is not None and later is not None:
            found.append((sooner - later - (high[4] if held(board, drawn, upper) else 0) + 1, greatness))
    return found


def pairs(board, most):
    """Each pair with the greatest lack and the least greatness that has it."""
    found = []
    for guard in board[0]:
        for upper in over(board, guard[0])[1:]:
            rows = lacks(board, guard[0], upper, most)
            if rows:
                more = max(lack for lack, greatness in rows)
                found.append((guard[0], upper, more, min(greatness for lack, greatness in rows if lack == more)))
    return found


def blind(board, most):
    """All blind pairs, each with its least greatness."""
    found = []
    for guard in board[0]:
        for upper in over(board, guard[0])[1:]:
            for greatness in range(1, most + 1):
                woken = awake(board, fault_draws(board, guard[0], greatness))
                if upper in woken and guard[0] not in woken:
                    found.append((guard[0], upper, greatness))
                    break
    return found


# Points 28 and 29.

def rows(board, most):
    """The row of each place."""
    drawn = {**rest(board), **{load[0]: load[3] if load[4] else 0 for load in board[1]}}
    noisy = awake(board, rest(board))
    found = {}
    for place in places(board):
        fault = None if noisy else astray(board, place, most)
        verdict = ("awake", noisy[0]) if noisy else ("parted",) if fault is None else ("not", *fault)
        found[place] = drawn[place], verdict
    return found


def changed(board, change):
    """The board behind a change."""
    guards, loads = [list(guard) for guard in board[0]], [list(load) for load in board[1]]
    for row in guards + loads:
        if row[0] == change[1]:
            if change[0] in ("on", "off"):
                row[4] = change[0] == "on"
            if change[0] == "move":
                row[1] = change[2]
            if change[0] == "load":
                row[2:4] = change[2:]
            if change[0] == "guard":
                row[2:] = change[2:]
    return tuple(map(tuple, guards)), tuple(map(tuple, loads))


def some_change(rng, board, most=4):
    """A change by chance; of a guard where there are no loads."""
    word = rng.choice(("on", "off", "move", "load", "guard", "guard"))
    if word == "guard" or not board[1]:
        return ("guard", rng.choice(board[0])[0], small_curve(rng, most), rng.choice((0, 1, 5)), rng.choice((0, 2, 6)))
    load = rng.choice(board[1])[0]
    if word == "move":
        return word, load, rng.choice(board[0])[0]
    if word == "load":
        return word, load, tuple((rng.randint(1, 3), rng.randint(0, 9)) for _ in range(rng.randint(0, 4))), rng.randint(0, 3)
    return word, load
