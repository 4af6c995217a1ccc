"""Point 13: what a deed is, what it does, and what is refused."""

import unittest

from fuseboard.deeds import is_deed
from fuseboard.errors import NoDeed, NoTurn
from fuseboard.runs import Run
from tests.plain import GREATEST, HOUSE, ODD_THINGS, TOO_GREAT

GUARDS = ("main", "up", "down", "attic", "spare", "kitchen", "empty")
LOADS = ("lamp", "motor", "stove", "bell", "heater", "fan")

RIGHT = tuple(
    [("fault", place, number) for place in GUARDS + LOADS for number in (0, 1, 17, GREATEST)]
    + [(word, load) for word in ("on", "off") for load in LOADS]
    + [(word, guard) for word in ("open", "close") for guard in GUARDS]
)
NO_NUMBERS = (-1, TOO_GREAT, 10 ** 5000, -10 ** 5000, True, False, None, "1", b"1", 1.0, (1,), [1], {1: 1}, "")
WRONG = tuple(
    list(ODD_THINGS)
    + [("fault", place, number) for place in ("main", "lamp") for number in NO_NUMBERS]
    + [("fault", place, 1) for place in ODD_THINGS + ("mai", "mains")]
    + [("fault", "main"), ("fault", "main", 1, 1), ("fault",), ("fault", 1, "main"), ("main", "fault", 1)]
    + [(word, load) for word in ("open", "close") for load in LOADS]
    + [(word, guard) for word in ("on", "off") for guard in GUARDS]
    + [(word, place) for word in ("open", "close", "on", "off") for place in ODD_THINGS + ("mai", "lam")]
    + [(word, place) for place in ("main", "lamp") for word in ODD_THINGS + ("ON", "Open", "shut", "switch", "faults",
                                                                            "move", "load", "guard", "go", "opened")]
    + [("on", "lamp", 1), ("on", "lamp", True), ("off", "lamp", 0), ("open", "main", 1), ("close", "main", None),
       ("on",), ("open",), ("on", "lamp", "lamp"), ("lamp", "on")]
    + [list(deed) for deed in RIGHT] + [(deed,) for deed in RIGHT[:3]] + ["on lamp", "fault main 1", "onlamp"]
    + [(["on"], "lamp"), (("on",), "lamp"), ({"on": 1}, "lamp"), ({}, []), ([], {}, ()), {"on": "lamp"},
       {"fault": 1, "main": 2, "x": 3}]
)


def state(run):
    """All that a run tells."""
    return (run.turn(), run.openings(), run.closed(), run.dark(), run.draws(), [run.through(name) for name in GUARDS],
            [run.drawn(name) for name in GUARDS + LOADS], [run.darkness(name) for name in LOADS])


class Deeds(unittest.TestCase):
    def test_each_deed_is_one_and_tells_nothing(self):
        for deed in RIGHT:
            self.assertIs(is_deed(HOUSE, deed), True)
            self.assertIsNone(Run(HOUSE).do(deed))

    def test_fault(self):
        run = Run(HOUSE)
        run.do(("fault", "attic", 9))
        self.assertEqual(run.draws(), {"main": 19, "up": 13, "down": 5, "attic": 11, "spare": 0, "kitchen": 5,
                                       "empty": 0})
        run.do(("fault", "attic", 4))
        self.assertEqual(run.draws()["main"], 14)
        run.do(("fault", "motor", 3))
        self.assertEqual(run.draws()["main"], 17)
        run.do(("fault", "attic", 0))
        self.assertEqual(run.draws()["main"], 13)
        run.go(5)
        self.assertEqual(run.draws()["kitchen"], 8)

    def test_on_and_off(self):
        run = Run(HOUSE)
        run.do(("off", "motor"))
        self.assertEqual(run.draws()["main"], 5)
        run.do(("on", "stove"))
        self.assertEqual(run.draws()["main"], 16)
        run.do(("off", "stove"))
        self.assertEqual(run.draws()["kitchen"], 0)
        self.assertEqual(run.closed(), list(GUARDS))

    def test_open_and_close(self):
        run = Run(HOUSE)
        run.do(("open", "up"))
        self.assertEqual(run.closed(), ["main", "down", "attic", "spare", "kitchen", "empty"])
        self.assertEqual(run.dark(), ["lamp", "fan"])
        run.do(("open", "spare"))
        self.assertEqual(run.dark(), ["lamp", "fan"])
        run.do(("open", "kitchen"))
        self.assertEqual(run.dark(), ["lamp", "motor", "fan"])
        run.do(("close", "up"))
        self.assertEqual((run.closed(), run.dark()), (["main", "up", "down", "attic", "empty"], ["motor"]))
        self.assertEqual(run.openings(), [])
        run.go(3)
        self.assertEqual(run.openings(), [])

    def test_stuck_guards_are_opened_and_closed_by_deeds_too(self):
        run = Run(HOUSE, ["up"])
        run.do(("open", "up"))
        self.assertNotIn("up", run.closed())
        run.do(("close", "up"))
        self.assertIn("up", run.closed())

    def test_what_is_so_already_stays(self):
        for first, again in ((("fault", "up", 5),) * 2, (("fault", "up", 0),) * 2, (("on", "fan"),) * 2,
                             (("off", "fan"),) * 2, (("on", "heater"),) * 2, (("off", "heater"),) * 2,
                             (("open", "up"),) * 2, (("close", "up"),) * 2):
            once, twice = Run(HOUSE), Run(HOUSE)
            for run in (once, twice):
                run.do(("on", "stove"))
                run.go(2)
                run.do(first)
            twice.do(again)
            for turn in (2, 3, 4, 6, 20):
                once.go(turn)
                twice.go(turn)
                twice.do(again)
                self.assertEqual(state(once), state(twice))


class NoDeeds(unittest.TestCase):
    def test_of_any_other_thing(self):
        for thing in WRONG:
            self.assertIs(is_deed(HOUSE, thing), False)
            self.assertRaises(NoDeed, Run(HOUSE).do, thing)

    def test_which_changes_nothing(self):
        run = Run(HOUSE)
        run.do(("fault", "attic", 8))
        run.do(("open", "kitchen"))
        run.go(5)
        run.do(("on", "heater"))
        ahead = state(run)
        for thing in WRONG:
            self.assertRaises(NoDeed, run.do, thing)
        self.assertEqual(state(run), ahead)
        run.go(9)
        twin = Run(HOUSE)
        twin.do(("fault", "attic", 8))
        twin.do(("open", "kitchen"))
        twin.go(5)
        twin.do(("on", "heater"))
        twin.go(9)
        self.assertEqual(state(run), state(twin))
        self.assertEqual(run.openings(), [(7, ("attic",))])

    def test_what_is_handed_in_is_not_changed(self):
        for deed in (["on", "lamp"], ["fault", "main", [1]], {"on": "lamp"}):
            ahead = repr(deed)
            self.assertRaises(NoDeed, Run(HOUSE).do, deed)
            self.assertEqual(repr(deed), ahead)


class Turns(unittest.TestCase):
    def test_at_first_0(self):
        self.assertEqual(Run(HOUSE).turn(), 0)

    def test_go_tells_nothing_and_goes_on(self):
        run = Run(HOUSE)
        for turn in (0, 1, 1, 5, 5, 100, 10 ** 60):
            self.assertIsNone(run.go(turn))
            self.assertEqual(run.turn(), turn)

    def test_less_than_the_turn_that_is_now(self):
        run = Run(HOUSE)
        run.do(("fault", "attic", 9))
        run.go(6)
        ahead = state(run)
        for turn in (5, 1, 0):
            self.assertRaises(NoTurn, run.go, turn)
        self.assertEqual(state(run), ahead)
        run.go(6)
        run.go(10 ** 50)
        self.assertRaises(NoTurn, run.go, 10 ** 50 - 1)
        self.assertEqual(run.turn(), 10 ** 50)


if __name__ == "__main__":
    unittest.main()
