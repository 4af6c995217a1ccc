"""Point 18: events, the first wrong one, and the openings that right ones lead to."""

import random
import unittest

from fuseboard.errors import NoEvent
from fuseboard.events import looked_events, openings_of
from tests import plain
from tests.plain import GREATEST, HOUSE, ODD_THINGS, TOO_GREAT, small_board, some_events, some_stuck

DEED = ("fault", "attic", 8)
RIGHT = [(0, DEED), (0, ("on", "heater")), (3, ("open", "kitchen")), (3, ("open", "kitchen")), (9, ("close", "attic")),
         (GREATEST, ("off", "lamp"))]
WRONG = ODD_THINGS + (
    (0, None), (0, ()), (0, ("fault", "attic")), (0, ("fault", "nobody", 1)), (0, ("fault", "attic", True)),
    (0, ("fault", "attic", TOO_GREAT)), (0, ("on", "attic")), (0, ("open", "lamp")), (0, ["on", "lamp"]), (0, "on lamp"),
    (-1, DEED), (True, DEED), (False, DEED), (None, DEED), ("0", DEED), (0.0, DEED), (TOO_GREAT, DEED),
    (10 ** 5000, DEED), (-10 ** 5000, DEED), ([0], DEED), ((0,), DEED), ({}, DEED), (0,), (DEED,), (0, DEED, 0), DEED,
    (DEED, 0), [0, DEED], {0: DEED}, (0, *DEED), (0, (0, DEED)), ((0, DEED),),
)


class Looked(unittest.TestCase):
    def assert_none(self, events, number, board=HOUSE):
        for ask in (lambda: looked_events(board, events), lambda: openings_of(board, None, events, 0),
                    lambda: openings_of(board, ["main"], events, 1), lambda: openings_of(board, (), events, 10)):
            with self.assertRaises(NoEvent) as caught:
                ask()
            self.assertEqual(caught.exception.number, number)
            self.assertIs(type(caught.exception.number), int)

    def test_right_ones(self):
        for many in range(len(RIGHT) + 1):
            self.assertIs(looked_events(HOUSE, RIGHT[:many]), True)
        self.assertIs(looked_events(HOUSE, [(GREATEST, DEED)] * 3), True)

    def test_none_and_two_hundred(self):
        self.assertIs(looked_events(HOUSE, []), True)
        events = [(turn // 2, DEED) for turn in range(200)]
        self.assertIs(looked_events(HOUSE, events), True)
        self.assertEqual(openings_of(HOUSE, None, events, 8), [(7, ("attic",))])
        for at in (0, 1, 100, 199):
            self.assert_none(events[:at] + [None] + events[at + 1:], at)
        self.assert_none(events[:199] + [(98, DEED)], 199)

    def test_somewhat_more_than_two_hundred(self):
        self.assertIs(looked_events(HOUSE, [(turn, DEED) for turn in range(230)]), True)

    def test_wrong_ones(self):
        for thing in WRONG:
            self.assert_none([thing], 0)

    def test_behind_right_ones_and_ahead_of_others(self):
        for thing in WRONG:
            for at in (1, 3, len(RIGHT)):
                self.assert_none(RIGHT[:at] + [thing] + RIGHT[at:], at)
                self.assert_none(RIGHT[:at] + [thing, None, (0, DEED)] + RIGHT[at:], at)

    def test_a_turn_less_than_the_one_ahead(self):
        for turn in (0, 1, 2, 8):
            self.assert_none(RIGHT[:5] + [(turn, DEED)], 5)
            self.assert_none(RIGHT[:5] + [(turn, DEED), None, (0, DEED)], 5)
        self.assertIs(looked_events(HOUSE, RIGHT[:5] + [(9, DEED)]), True)
        self.assert_none([(GREATEST, DEED), (GREATEST - 1, DEED)], 1)
        self.assert_none([(5, DEED), (6, DEED), (5, DEED), (4, DEED)], 2)
        self.assert_none([(1, DEED), (0, DEED)], 1)

    def test_names_of_another_board(self):
        self.assert_none(RIGHT, 0, ((("x", None, ((1, 1),), 0, 0),), ()))

    def test_what_is_handed_in_is_not_changed(self):
        events = list(RIGHT) + [None]
        self.assertRaises(NoEvent, looked_events, HOUSE, events)
        self.assertRaises(NoEvent, openings_of, HOUSE, None, events, 5)
        self.assertEqual(events, RIGHT + [None])
        stuck = ["attic", "attic"]
        events = list(RIGHT)
        looked_events(HOUSE, events)
        openings_of(HOUSE, stuck, events, 50)
        self.assertEqual((events, stuck), (RIGHT, ["attic", "attic"]))


class OpeningsOf(unittest.TestCase):
    def test_a_fault(self):
        events = [(2, DEED)]
        for upto, told in ((0, []), (1, []), (2, []), (9, []), (10, [(9, ("attic",))]), (100, [(9, ("attic",))]),
                           (GREATEST, [(9, ("attic",))])):
            self.assertEqual(openings_of(HOUSE, None, events, upto), told)

    def test_stuck(self):
        for stuck in (["attic"], ("attic",), ["attic", "up", "attic"]):
            self.assertEqual(openings_of(HOUSE, stuck, [(0, DEED)], 1000), [])
        self.assertEqual(openings_of(HOUSE, ["attic"], [(0, ("fault", "attic", 100))], 1000), [(11, ("up",))])

    def test_events_of_the_turn_upto_and_later_are_not_done(self):
        alone = ((("top", None, ((10, 1),), 0, 0),), ())
        for turn in (0, 1, 5):
            events = [(turn, ("fault", "top", 10)), (turn + 1, ("close", "top"))]
            self.assertEqual(openings_of(alone, None, events, turn), [])
            self.assertEqual(openings_of(alone, None, events, turn + 1), [(turn, ("top",))])
            self.assertEqual(openings_of(alone, None, events, turn + 2), [(turn, ("top",)), (turn + 1, ("top",))])

    def test_events_of_one_turn_in_their_order(self):
        alone = ((("top", None, ((10, 1),), 0, 0),), ())
        on, off = ("fault", "top", 10), ("fault", "top", 0)
        self.assertEqual(openings_of(alone, None, [(3, on), (3, off)], 9), [])
        self.assertEqual(openings_of(alone, None, [(3, off), (3, on)], 9), [(3, ("top",))])

    def test_against_runs_gone_turn_by_turn(self):
        rng = random.Random(14)
        for _ in range(300):
            board = small_board(rng)
            stuck, events, upto = some_stuck(rng, board), some_events(rng, board), rng.randint(0, 45)
            told = openings_of(board, stuck, events, upto)
            self.assertEqual(told, plain.plain_run(board, stuck, events, upto).openings)
            self.assertIs(looked_events(board, events), True)

    def test_great_turns(self):
        events = [(10 ** 59, DEED), (2 * 10 ** 59, ("close", "attic")), (GREATEST, ("close", "attic"))]
        self.assertEqual(openings_of(HOUSE, None, events, 10 ** 60),
                         [(10 ** 59 + 7, ("attic",)), (2 * 10 ** 59 + 7, ("attic",))])

    def test_a_list_of_the_askers_own(self):
        told = openings_of(HOUSE, None, [(0, DEED)], 100)
        self.assertIs(type(told), list)
        told.clear()
        self.assertEqual(openings_of(HOUSE, None, [(0, DEED)], 100), [(7, ("attic",))])


if __name__ == "__main__":
    unittest.main()
