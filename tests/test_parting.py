"""Points 23 and 24: whether a board is parted up to a greatness, and whether each guard is backed."""

import random
import unittest

from fuseboard.errors import Loud
from fuseboard.maps import opening_of
from fuseboard.parting import backed, parted
from tests import plain
from tests.plain import GREATEST, noisy, pair_board, quiet_board, some_stuck

class Parted(unittest.TestCase):
    def test_a_pair(self):
        # By faults from 25 on top opens in four turns, low in six, from 37 on in two; from 55 on top in one.
        self.assertIsNone(parted(pair_board(), 24))
        self.assertEqual(parted(pair_board(), 25), ("low", 25, ("top",)))
        self.assertEqual(parted(pair_board(), GREATEST), ("low", 25, ("top",)))
        self.assertEqual(parted(pair_board(delays=(2, 0)), 25), ("low", 25, ("top", "low")))
        self.assertIsNone(parted(pair_board(delays=(3, 0)), GREATEST))
        self.assertIsNone(parted(pair_board(3), GREATEST))
        self.assertEqual(parted(pair_board(2), 99), ("low", 25, ("top", "low")))
        self.assertEqual(parted(pair_board(1, ((10, 4), (40, 2))), 99), ("low", 55, ("top", "low")))

    def test_a_guard_that_is_not_awake(self):
        board = pair_board(9, ((16, 1),), delays=(9, 0))
        self.assertIsNone(parted(board, GREATEST))
        board = pair_board(9, ((19, 1),), delays=(9, 0))
        self.assertIsNone(parted(board, 14))
        self.assertEqual(parted(board, 15), ("low", 15, ("top",)))

    def test_the_first_place_in_order(self):
        # At mid the fault of 3 goes astray, at low and at the lamp that of 3 too, and mid stands ahead.
        board = ((("top", None, ((3, 2), (9, 1)), 0, 2), ("mid", "top", ((4, 2), (5, 1)), 0, 0),
                  ("low", "mid", ((2, 5),), 0, 0)), (("lamp", "low", (), 0, True),))
        self.assertEqual(parted(board, 99), ("mid", 3, ("top",)))
        self.assertEqual(parted(board, 2), None)
        self.assertEqual(parted(board, 99, ["mid"]), ("low", 3, ("top",)))
        self.assertIsNone(parted((board[0][:1], (("lamp", "top", (), 1, True),)), 99))

    def test_stuck_ones(self):
        for stuck in (["top"], ("top", "top")):
            self.assertIsNone(parted(pair_board(), GREATEST, stuck))
        for stuck in (["low"], ("low", "low")):
            self.assertIsNone(parted(pair_board(), GREATEST, stuck))
        for stuck in (["low", "top"], ("top", "low", "top")):
            self.assertIsNone(parted(pair_board(), GREATEST, stuck))
        for stuck in (None, [], ()):
            self.assertEqual(parted(pair_board(), 99, stuck), ("low", 25, ("top",)))
        three = ((("top", None, ((5, 1),), 0, 0), ("mid", "top", ((5, 2),), 0, 0), ("low", "mid", ((5, 9),), 0, 0)), ())
        self.assertEqual(parted(three, 9), ("mid", 5, ("top",)))
        self.assertEqual(parted(three, 9, ["low"]), ("mid", 5, ("top",)))
        self.assertEqual(parted(three, 9, ["mid"]), ("low", 5, ("top",)))
        self.assertEqual(parted(three, 9, ["top"]), ("low", 5, ("mid",)))
        self.assertIsNone(parted(three, 9, ["mid", "low"]))
        self.assertIsNone(parted(three, 4))

    def test_a_load_that_is_off(self):
        self.assertIsNone(parted(((("top", None, ((5, 1),), 0, 0),), (("lamp", "top", (), 0, False),)), 99))

    def test_against_all_places_and_greatnesses(self):
        rng = random.Random(80)
        found = []
        for _ in range(150):
            board = quiet_board(rng)
            stuck, most = some_stuck(rng, board), rng.randint(1, 12)
            wrong = []
            for place in plain.places(board):
                fault = plain.astray(board, place, most, tuple(stuck or ()))
                if fault is not None:
                    wrong.append((place, *fault))
            told = parted(board, most, stuck)
            self.assertEqual(told, wrong[0] if wrong else None)
            found.append(told)
        self.assertGreater(found.count(None), 30)
        self.assertGreater(len(found) - found.count(None), 30)
        self.assertTrue([row for row in found if row and len(row[2]) > 1])

    def test_loud(self):
        for stuck in (None, ["top"], ["low", "top"]):
            with self.assertRaises(Loud) as caught:
                parted(noisy(pair_board()), 9, stuck)
            self.assertEqual(caught.exception.guard, "top")


class Backed(unittest.TestCase):
    def test_a_pair(self):
        # Where low is stuck, top opens by a fault of 15 or more at low; nothing opens where top is stuck and a fault
        # comes at top itself.
        self.assertEqual(backed(pair_board(), 6), [("top", None), ("low", None)])
        self.assertEqual(backed(pair_board(), 7), [("top", None), ("low", ("low", 7))])
        self.assertEqual(backed(pair_board(), 14), [("top", None), ("low", ("low", 7))])
        self.assertEqual(backed(pair_board(), 15), [("top", ("top", 15)), ("low", ("low", 7))])
        self.assertEqual(backed(pair_board(delays=(3, 0)), GREATEST), [("top", ("top", 15)), ("low", ("low", 7))])

    def test_backed_by_the_upper(self):
        self.assertEqual(backed(pair_board(0, ((18, 6),), delays=(3, 0)), GREATEST), [("top", ("top", 15)), ("low", None)])
        self.assertEqual(backed(pair_board(0, ((17, 6),), delays=(3, 0)), GREATEST), [("top", ("top", 15)), ("low", ("low", 14))])

    def test_backed_by_the_lower(self):
        # Top opens ahead of low by each fault at low, and low's faults are then opened by low where top is stuck.
        board = ((("top", None, ((5, 1),), 0, 0), ("low", "top", ((5, 2),), 0, 0)), ())
        self.assertEqual(backed(board, 9), [("top", ("top", 5)), ("low", None)])

    def test_several_that_open_together(self):
        board = ((("top", None, ((5, 2),), 0, 0), ("low", "top", ((5, 2),), 0, 0)), ())
        self.assertEqual(backed(board, 9), [("top", ("top", 5)), ("low", None)])

    def test_the_first_place_in_order(self):
        board = ((("top", None, ((50, 1),), 0, 0), ("mid", "top", ((20, 1),), 9, 0), ("low", "mid", ((30, 1),), 0, 0)),
                 (("lamp", "mid", (), 4, True),))
        self.assertEqual(backed(board, 99), [("top", ("top", 46)), ("mid", ("mid", 16)), ("low", None)])

    def test_the_least_greatness_is_not_where_another_guard_opens(self):
        # Top's steps begin to open it where low, stuck or not, is awake already.
        board = ((("top", None, ((10, 9), (20, 1)), 0, 0), ("low", "top", ((12, 3),), 0, 0)), ())
        self.assertEqual(backed(board, 99), [("top", ("top", 10)), ("low", None)])
        board = ((("top", None, ((20, 1),), 0, 0), ("low", "top", ((12, 3), (25, 1)), 0, 0)), ())
        self.assertEqual(backed(board, 99), [("top", ("top", 20)), ("low", ("low", 12))])

    def test_against_all_places_and_greatnesses(self):
        rng = random.Random(81)
        found = []
        for _ in range(120):
            board = quiet_board(rng)
            most = rng.randint(1, 12)
            told = backed(board, most)
            self.assertIs(type(told), list)
            self.assertEqual([row[0] for row in told], [guard[0] for guard in board[0]])
            for guard, fault in told:
                wrong = [(place, greatness) for place in plain.places(board) for greatness in range(1, most + 1)
                         if guard in (plain.opening(board, place, greatness) or (0, ()))[1]
                         and plain.opening(board, place, greatness, (guard,)) is None]
                self.assertEqual(fault, wrong[0] if wrong else None)
                found.append(fault)
        self.assertGreater(found.count(None), 30)
        self.assertGreater(len(found) - found.count(None), 30)

    def test_loud(self):
        with self.assertRaises(Loud) as caught:
            backed(noisy(pair_board()), 9)
        self.assertEqual(caught.exception.guard, "top")

    def test_a_list_of_the_askers_own(self):
        told = backed(pair_board(), 9)
        told.clear()
        self.assertEqual(len(backed(pair_board(), 9)), 2)


class GreatBoards(unittest.TestCase):
    def test_answered_at_once(self):
        names = "abcdefghijklmnop"
        guards = []
        for at, name in enumerate(names):
            curve = tuple((10 ** (58 - step) * 9 - 7 * at, 10 ** (9 + step)) for step in (4, 3, 2, 1, 0))
            guards.append((name, names[at - 1] if at % 8 else None, curve, 10 ** 50 * (20 - at), 10 ** 49))
        loads = tuple(("l" + letter, names[at % 16], (), 10 ** 20 + at, at % 5 > 0)
                      for at, letter in enumerate("abcdefghijklmnopqrstuvwx"))
        board = tuple(guards), loads
        # What is under a guard draws less at rest, so by some fault at h the guard over it is awake alone.
        low = 9 * 10 ** 54 - 7 * 6 - sum(load[3] for load in loads if load[4] and load[1] in "gh")
        self.assertEqual(parted(board, GREATEST)[0], "b")
        self.assertEqual(parted(board, GREATEST, list(names[:6] + names[8:])), ("h", low, ("g",)))
        told = backed(board, GREATEST)
        self.assertEqual([row[0] for row in told], list(names))
        for guard, fault in told:
            if fault is not None:
                self.assertIn(guard, opening_of(board, *fault)[1])
                self.assertIsNone(opening_of(board, *fault, [guard]))
        self.assertEqual(told[0][1][0], "a")


if __name__ == "__main__":
    unittest.main()
