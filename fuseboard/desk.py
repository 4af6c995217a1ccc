"""A desk: it is told rows and answers each with a text, by a run and a keeper of one board."""

from fuseboard.boards import has_place
from fuseboard.delays import least_delays
from fuseboard.errors import NoPlace, NoRow
from fuseboard.keeper import Keeper
from fuseboard.maps import map_of
from fuseboard.rows import read_row
from fuseboard.runs import Run
from fuseboard.texts import read_board, show_board


def show_all(words):
    """Words told one by one."""
    return " ".join(words) if words else "-"


def show_named(found):
    """A dict from names to numbers."""
    return show_all([f"{name}={found[name]}" for name in found])


def show_names(names):
    """The names of one opening."""
    return ",".join(names)


def show_opening(opening):
    """An opening, or that there is none."""
    return "-" if opening is None else f"{opening[0]}:{show_names(opening[1])}"


def show_map(rows):
    """The rows of a map."""
    return " / ".join([f"{low}-{high} {show_opening(opening)}" for low, high, opening in rows])


def show_row(row):
    """A keeper's row: the draw and the verdict."""
    drawn, verdict = row
    if verdict[0] == "not":
        return f"{drawn} not {verdict[1]} {show_names(verdict[2])}"
    return " ".join([str(drawn)] + list(verdict))


# Of the run: a deed's row is read to the deed itself.

def answer_go(run, told):
    """The run goes on; the openings that this made."""
    many = len(run.openings())
    run.go(told[1])
    return show_all([show_opening(opening) for opening in run.openings()[many:]])


def answer_deed(run, told):
    """A deed is done."""
    run.do(told)
    return "ok"


def answer_dark(run, told):
    """The loads that are on and not fed."""
    return show_all(run.dark())


def answer_draws(run, told):
    """Each guard's draw, as it is now."""
    return show_named(run.draws())


def answer_sum(run, told):
    """What was drawn straight at a place."""
    return str(run.drawn(told[1]))


def answer_through(run, told):
    """The sum of a guard's draws."""
    return str(run.through(told[1]))


# Of the keeper.

def answer_change(keeper, told):
    """A change; the places whose rows are others behind it."""
    return show_all(keeper.change(told[1]))


def answer_row(keeper, told):
    """The row of a place."""
    if not has_place(keeper.board(), told[1]):
        raise NoPlace("no such place")
    return show_row(keeper.rows()[told[1]])


def answer_board(keeper, told):
    """The board's text in one line."""
    return show_board(keeper.board()).replace("\n", " / ")


def answer_map(keeper, told):
    """The map of a place."""
    return show_map(map_of(keeper.board(), told[1], keeper.most))


def answer_least(keeper, told):
    """Each guard's least delay."""
    return show_named(least_delays(keeper.board(), keeper.most))


OF_RUN = {
    "go": answer_go,
    "fault": answer_deed,
    "on": answer_deed,
    "off": answer_deed,
    "open": answer_deed,
    "close": answer_deed,
    "dark": answer_dark,
    "draws": answer_draws,
    "sum": answer_sum,
    "through": answer_through,
}
OF_KEEPER = {
    "change": answer_change,
    "row": answer_row,
    "board": answer_board,
    "map": answer_map,
    "least": answer_least,
}


class Desk:
    """A desk of a board's text, for faults up to a greatness."""

    def __init__(self, text, most):
        plan = read_board(text)
        self.keeper = Keeper(plan, most)
        self.run = Run(plan)

    def say(self, row):
        """The answer to a row; refused with NoRow, ahead of all else, where it is none."""
        told = read_row(row)
        if told is None:
            raise NoRow("no such row")
        if told[0] in OF_RUN:
            answer = OF_RUN[told[0]]
            return answer(self.run, told)
        answer = OF_KEEPER[told[0]]
        return answer(self.keeper, told)
