"""Points 1 to 3, over the whole program: from a board's text through a desk to what opens in runs gone turn by turn."""

import random
import unittest

from fuseboard.delays import needs, with_delays
from fuseboard.desk import Desk
from fuseboard.errors import Blind, BoardError, Loud, NoTurn
from fuseboard.events import openings_of
from fuseboard.looker import lets_by
from fuseboard.maps import lets_through, map_of, opening_of
from fuseboard.papers import paper_of
from fuseboard.parting import backed, parted
from fuseboard.runs import Run
from fuseboard.texts import read_board
from tests import plain
from tests.plain import quiet_board, small_board, some_events


def text_of(board):
    """A board's text, in the tests' own words."""
    lines = [["guard", name, under or "-", delay, wait] + [f"{draw}:{turns}" for draw, turns in curve]
             for name, under, curve, delay, wait in board[0]]
    lines += [["load", name, at, "on" if switch else "off", last] + [f"{turns}:{draw}" for turns, draw in course]
              for name, at, course, last, switch in board[1]]
    return "\n".join(" ".join(map(str, line)) for line in lines)


def change_row(change):
    """A change as a row."""
    if change[0] == "load":
        words = [change[1], change[3]] + [f"{turns}:{draw}" for turns, draw in change[2]]
    elif change[0] == "guard":
        words = [change[1], *change[3:]] + [f"{draw}:{turns}" for draw, turns in change[2]]
    else:
        words = change[1:]
    return " ".join(map(str, ("change", change[0], *words)))


def listed(words):
    return " ".join(words) or "-"


def opening_text(told):
    return "-" if told is None else f"{told[0]}:{','.join(told[1])}"


def least(board, most):
    """The least delays: from none on, raised one by one where a pair lacks something."""
    delays = {guard[0]: 0 for guard in board[0]}
    rows = plain.pairs(board, most)
    while True:
        short = [upper for lower, upper, more, _ in rows if delays[upper] < delays[lower] + more]
        if not short:
            return delays
        delays[short[0]] += 1


class PlainDesk:
    """A desk in the tests' own words: a run gone turn by turn, faults looked at greatness by greatness."""

    def __init__(self, board, most):
        self.board = board
        self.most = most
        self.run = plain.PlainRun(board)

    def go(self, turn):
        if turn < self.run.now:
            raise NoTurn("over")
        many = len(self.run.openings)
        self.run.go(turn)
        return listed([opening_text(told) for told in self.run.openings[many:]])

    def do(self, deed):
        self.run.do(deed)
        return "ok"

    def draws(self):
        return listed([f"{name}={draw}" for name, draw in self.run.draws().items()])

    def change(self, change):
        ahead = plain.rows(self.board, self.most)
        self.board = plain.changed(self.board, change)
        behind = plain.rows(self.board, self.most)
        return listed([place for place in behind if behind[place] != ahead[place]])

    def row(self, place):
        draw, verdict = plain.rows(self.board, self.most)[place]
        if verdict[0] == "not":
            verdict = ("not", str(verdict[1]), ",".join(verdict[2]))
        return " ".join((str(draw), *verdict))

    def quiet(self):
        noisy = plain.awake(self.board, plain.rest(self.board))
        if noisy:
            raise Loud(noisy[0])

    def map(self, place):
        self.quiet()
        rows = []
        for greatness in range(1, self.most + 1):
            told = plain.opening(self.board, place, greatness)
            if rows and rows[-1][2] == told:
                rows[-1][1] = greatness
            else:
                rows.append([greatness, greatness, told])
        return " / ".join(f"{low}-{high} {opening_text(told)}" for low, high, told in rows)

    def least(self):
        self.quiet()
        for pair in plain.blind(self.board, self.most):
            raise Blind(*pair)
        return listed([f"{name}={delay}" for name, delay in least(self.board, self.most).items()])


def answer(ask, *things):
    """What is answered, or the kind of the refusal and its fields."""
    try:
        return ask(*things)
    except BoardError as refused:
        return type(refused), vars(refused)


def some_row(rng, plain_desk):
    """A row by chance, and what a plain desk is asked by it."""
    places = plain.places(plain_desk.run.board)
    place, guard = rng.choice(places), rng.choice(plain_desk.board[0])[0]
    kind = rng.choice(("go", "go", "deed", "deed", "deed", "dark", "draws", "sum", "through", "change", "row", "map", "least",
                       "board"))
    if kind == "go":
        turn = plain_desk.run.now + rng.choice((-1, 0, 1, 3, 8, 20))
        return f"go {max(0, turn)}", (plain_desk.go, max(0, turn))
    if kind == "deed":
        deed = plain.some_deed(rng, plain_desk.run.board)
        return " ".join(map(str, deed)), (plain_desk.do, deed)
    if kind == "change":
        change = plain.some_change(rng, plain_desk.board)
        return change_row(change), (plain_desk.change, change)
    return {
        "dark": ("dark", (lambda: listed(plain_desk.run.dark()),)),
        "draws": ("draws", (plain_desk.draws,)),
        "sum": (f"sum {place}", (lambda: str(plain_desk.run.drawn(place)),)),
        "through": (f"through {guard}", (lambda: str(plain_desk.run.through(guard)),)),
        "row": (f"row {place}", (plain_desk.row, place)),
        "map": (f"map {place}", (plain_desk.map, place)),
        "least": ("least", (plain_desk.least,)),
        "board": ("board", (lambda: text_of(plain_desk.board).replace("\n", " / "),)),
    }[kind]


class ThroughADesk(unittest.TestCase):
    def test_rows_by_chance(self):
        rng = random.Random(140)
        answers = []
        for _ in range(60):
            board, most = rng.choice((quiet_board, quiet_board, small_board))(rng), rng.randint(1, 8)
            desk, plain_desk = Desk(text_of(board), most), PlainDesk(board, most)
            for _ in range(30):
                row, asked = some_row(rng, plain_desk)
                told = answer(desk.say, row)
                self.assertEqual(told, answer(*asked), (board, row))
                answers.append((row.split(" ")[0], told))
        kinds = {told[0] for _, told in answers if isinstance(told, tuple)}
        self.assertEqual(kinds, {NoTurn, Loud, Blind})
        for word in ("go", "fault", "on", "off", "open", "close", "dark", "draws", "sum", "through", "change", "row", "map",
                     "least", "board"):
            self.assertGreater(len({told for first, told in answers if first == word and isinstance(told, str)}),
                               0 if word in ("fault", "on", "off", "open", "close") else 3, word)

    def test_maps_against_what_then_opens_in_a_desks_run(self):
        rng = random.Random(141)
        for _ in range(25):
            board = quiet_board(rng)
            text = text_of(board)
            place = rng.choice(plain.places(board))
            rows = Desk(text, 12).say(f"map {place}").split(" / ")
            for row in rows:
                span, told = row.split(" ")
                low, high = map(int, span.split("-"))
                for greatness in range(low, high + 1):
                    desk = Desk(text, 12)
                    desk.say(f"fault {place} {greatness}")
                    self.assertEqual(desk.say("go 60"), told)
                    self.assertEqual(opening_text(plain.opening(board, place, greatness)), told)

    def test_least_delays_against_what_then_opens(self):
        rng = random.Random(142)
        settled = 0
        while settled < 25:
            board = quiet_board(rng)
            desk = Desk(text_of(board), 9)
            told = answer(desk.say, "least")
            if isinstance(told, tuple):
                continue
            settled += 1
            delays = {name: int(delay) for name, delay in (word.split("=") for word in told.split(" "))}
            for name, under, curve, delay, wait in board[0]:
                desk.say(change_row(("guard", name, curve, delays[name], wait)))
            text = desk.say("board").replace(" / ", "\n")
            self.assertEqual(read_board(text), with_delays(board, delays))
            for place in plain.places(board):
                self.assertEqual(desk.say(f"row {place}").split(" ")[1], "parted")
                for greatness in (1, 2, 3, 5, 7, 9):
                    other = Desk(text, 9)
                    other.say(f"fault {place} {greatness}")
                    self.assertIn(other.say("go 99").partition(":")[2], ("", plain.over(board, place)[0]))
            for guard, lower, greatness in needs(board, 9):
                run = plain.PlainRun(with_delays(board, {**delays, guard: delays[guard] - 1}))
                run.do(("fault", lower, greatness))
                run.go(99)
                self.assertIn(guard, run.openings[0][1])

    def test_a_row_that_is_not_parted_against_what_then_opens(self):
        rng = random.Random(143)
        astray = 0
        while astray < 25:
            board = quiet_board(rng)
            for place in plain.places(board):
                draw, verdict, *fault = Desk(text_of(board), 9).say(f"row {place}").split(" ")
                if verdict == "not":
                    astray += 1
                    run = Desk(text_of(board), 9)
                    run.say(f"fault {place} {fault[0]}")
                    self.assertEqual(run.say("go 60").partition(":")[2], fault[1])
                    self.assertNotEqual(fault[1], plain.over(board, place)[0])


class TheWhole(unittest.TestCase):
    def test_what_is_drawn_sums_up(self):
        rng = random.Random(144)
        for _ in range(200):
            board = small_board(rng)
            run = Run(board)
            for turn, deed in some_events(rng, board):
                run.go(turn)
                run.do(deed)
            run.go(10 ** 40)
            tops = sum(run.through(guard[0]) for guard in board[0] if guard[1] is None)
            self.assertEqual(tops, sum(run.drawn(place) for place in plain.places(board)))

    def test_a_paper_tells_the_openings(self):
        rng = random.Random(145)
        for _ in range(200):
            board, upto = small_board(rng), rng.randint(0, 40)
            events = some_events(rng, board)
            paper = paper_of(board, None, events, upto)
            self.assertIs(lets_by(board, None, events, upto, paper), True)
            told = [(end - 1, tuple(row[0] for row in opened)) for begin, end, draws, opened in paper if opened]
            self.assertEqual(told, openings_of(board, None, events, upto))
            self.assertEqual(told, plain.plain_run(board, None, events, upto).openings)

    def test_a_fault_at_rest_is_a_run_with_one_event(self):
        rng = random.Random(146)
        for _ in range(150):
            board = quiet_board(rng)
            place, greatness = rng.choice(plain.places(board)), rng.randint(0, 15)
            told = opening_of(board, place, greatness)
            self.assertEqual(openings_of(board, None, [(0, ("fault", place, greatness))], 10 ** 30), [told] if told else [])

    def test_nothing_handed_in_is_changed_and_nothing_hangs_on_it(self):
        board = quiet_board(random.Random(147))
        guard = board[0][0][0]
        stuck, events = [guard, guard], [(0, ("fault", guard, 9)), (3, ("close", guard))]
        kept = repr((stuck, events))
        run = Run(board, stuck)
        told = [paper_of(board, stuck, events, 9), map_of(board, guard, 9, stuck), [lets_through(board, guard, 9, stuck)],
                [parted(board, 9, stuck)], backed(board, 9), openings_of(board, stuck, events, 9)]
        self.assertIs(lets_by(board, stuck, events, 9, told[0]), True)
        self.assertEqual(repr((stuck, events)), kept)
        shown = repr(told)
        stuck.clear()
        events.clear()
        run.do(("fault", guard, 10 ** 9))
        run.go(10 ** 9)
        self.assertEqual(run.openings(), [])
        self.assertEqual(repr(told), shown)


if __name__ == "__main__":
    unittest.main()
