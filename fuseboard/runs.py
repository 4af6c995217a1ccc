"""Runs: a board that goes on by turns, with deeds, faults and guards that open by themselves."""

from fuseboard.boards import guards_of, has_guard, has_load, has_place, loads_of, places_of
from fuseboard.counts import Counts
from fuseboard.deeds import is_deed
from fuseboard.draws import draws_fed, fed_guards, held_guards
from fuseboard.errors import NoDeed, NoPlace, NoTurn


def course_at(load, spent):
    """What a load draws so many turns behind the begin of its course, and how long yet; None: for ever."""
    for turns, draw in load[2]:
        if spent < turns:
            return draw, turns - spent
        spent -= turns
    return load[3], None


def with_stretch(stretches, first, last):
    """Stretches of turns and one more behind them, joined to the last of them where no turn is between."""
    if stretches and stretches[-1][1] == first - 1:
        return stretches[:-1] + [(stretches[-1][0], last)]
    return stretches + [(first, last)]


class Run:
    """A run of a board, from rest on; it goes by stretches of turns in which nothing changes."""

    def __init__(self, board, stuck=None):
        guards, loads, places = guards_of(board), loads_of(board), places_of(board)
        self.plan = board
        self.stuck = [] if stuck is None else list(stuck)
        self.now = 0
        self.apart = {name: False for name in guards}
        self.lit = {name: True for name in guards}
        self.switches = {load[0]: load[4] for load in board[1]}
        self.faults = {name: 0 for name in places}
        self.counts = {guard[0]: Counts(guard[2]) for guard in board[0]}
        # Loads that are on and fed, and the turn in which the course of each began; None: it is past from the first.
        self.live = dict(self.switches)
        self.begun = {name: None for name in loads}
        self.trips = []
        self.guard_sums = {name: 0 for name in guards}
        self.place_sums = {name: 0 for name in places}
        self.dark_turns = {name: [] for name in loads}

    def turn(self):
        """The turn that is now."""
        return self.now

    def do(self, deed):
        """A deed at the begin of the turn that is now, behind those done so far."""
        if not is_deed(self.plan, deed):
            raise NoDeed("no such deed")
        word, place = deed[0], deed[1]
        if word == "fault":
            self.faults[place] = deed[2]
        elif word in ("on", "off"):
            self.switches[place] = word == "on"
        else:
            self.apart[place] = word == "open"
        self.settle()

    def go(self, turn):
        """All turns below this one are over then."""
        if turn < self.now:
            raise NoTurn("this turn is over already")
        while self.now < turn:
            self.stretch(turn)

    def openings(self):
        """All openings so far: tuples (turn, names)."""
        return list(self.trips)

    def closed(self):
        """The closed guards, fed or not, in order."""
        return [name for name in guards_of(self.plan) if not self.apart[name]]

    def dark(self):
        """The loads that are on and not fed, in order."""
        return [name for name in loads_of(self.plan) if self.switches[name] and not self.live[name]]

    def draws(self):
        """Each guard's draw in the turn that is now, by the deeds done so far."""
        return draws_fed(self.plan, self.lit, self.pulls())

    def through(self, guard):
        """The sum of a guard's draws over all turns that are over."""
        if not has_guard(self.plan, guard):
            raise NoPlace("no such guard")
        return self.guard_sums[guard]

    def drawn(self, place):
        """The sum of what was drawn straight at a place over all turns that are over."""
        if not has_place(self.plan, place):
            raise NoPlace("no such place")
        return self.place_sums[place]

    def darkness(self, load):
        """The stretches (first, last) of turns that are over in which a load was on and not fed."""
        if not has_load(self.plan, load):
            raise NoPlace("no such load")
        return list(self.dark_turns[load])

    def settle(self):
        """Counts and courses, behind a deed or openings, by which guards are fed and which loads are on now."""
        self.lit = fed_guards(self.plan, [name for name in self.apart if self.apart[name]])
        for name in guards_of(self.plan):
            if not self.lit[name]:
                self.counts[name].clear()
        for load in self.plan[1]:
            name = load[0]
            live = self.switches[name] and self.lit[load[1]]
            if live and not self.live[name]:
                self.begun[name] = self.now
            self.live[name] = live

    def course_now(self, load):
        """What a load draws by its course where it is on and fed, and how long yet; None: for ever."""
        begun = self.begun[load[0]]
        if begun is None:
            return load[3], None
        return course_at(load, self.now - begun)

    def pulls(self):
        """What is pulled at each place in the turn that is now."""
        found = dict(self.faults)
        for load in self.plan[1]:
            name = load[0]
            if not self.switches[name]:
                found[name] = 0
            elif self.live[name]:
                found[name] += self.course_now(load)[0]
        return found

    def stretch(self, end):
        """One stretch of turns from now on, none beyond end, in which nothing changes.

        Told as a paper has it, but for those that open, which are told with all their full steps.
        """
        begin = self.now
        pulled = self.pulls()
        found = draws_fed(self.plan, self.lit, pulled)
        mores = self.mores(found)
        many = self.length(end, found, mores)
        self.sum_up(many, found, pulled)
        for name in guards_of(self.plan):
            self.counts[name].turns(found[name], many)
        self.now += many
        opened = self.ripe(mores)
        self.trip([row[0] for row in opened])
        return begin, self.now, tuple(found.values()), opened

    def mores(self, found):
        """For how many turns more than its curve's each guard stays closed by these draws."""
        waiting = held_guards(self.plan, found)
        return {guard[0]: guard[3] + guard[4] if guard[0] in waiting else guard[3] for guard in self.plan[0]}

    def length(self, end, found, mores):
        """How many turns nothing changes: no guard opens ahead of the last of them, no course comes to another draw."""
        manys = [end - self.now]
        for guard in guards_of(self.plan):
            if guard not in self.stuck:
                manys.append(self.counts[guard].until(found[guard], mores[guard]))
        for load in self.plan[1]:
            if self.live[load[0]]:
                manys.append(self.course_now(load)[1])
        return min([many for many in manys if many is not None])

    def sum_up(self, many, found, pulled):
        """So many turns with these draws and pulls, added to all that is summed."""
        for name in guards_of(self.plan):
            self.guard_sums[name] += many * found[name]
            if self.lit[name]:
                self.place_sums[name] += many * pulled[name]
        for name in loads_of(self.plan):
            if self.live[name]:
                self.place_sums[name] += many * pulled[name]
        for name in self.dark():
            self.dark_turns[name] = with_stretch(self.dark_turns[name], self.now, self.now + many - 1)

    def ripe(self, mores):
        """The guards that open now that a turn is over, in order, each with all its full steps: (step, since)."""
        found = []
        for name in guards_of(self.plan):
            told = self.counts[name].told()
            steps = self.counts[name].full_steps(mores[name])
            if steps and name not in self.stuck:
                found.append((name, [(step, self.now - told[step]) for step in steps]))
        return found

    def trip(self, names):
        """These guards open by themselves, together, when the last turn is over."""
        if not names:
            return
        self.trips.append((self.now - 1, tuple(names)))
        for name in names:
            self.apart[name] = True
        self.settle()
