"""Points 25 and 26: what the upper of a pair lacks, and blind pairs."""

import random
import unittest

from fuseboard.errors import Loud
from fuseboard.pairs import blind, pairs_of
from tests import plain
from tests.plain import GREATEST, chain, noisy, pair_board, quiet_board

class PairsOf(unittest.TestCase):
    def test_a_pair(self):
        # From 15 on 6 and 9 turns, from 25 on 6 and 4, from 37 on 2 and 4, from 55 on 2 and 1.
        self.assertEqual(pairs_of(pair_board(), 14), [])
        self.assertEqual(pairs_of(pair_board(), 15), [("low", "top", -2, 15)])
        self.assertEqual(pairs_of(pair_board(), 24), [("low", "top", -2, 15)])
        self.assertEqual(pairs_of(pair_board(), 25), [("low", "top", 3, 25)])
        self.assertEqual(pairs_of(pair_board(), GREATEST), [("low", "top", 3, 25)])

    def test_the_uppers_wait_where_it_is_held(self):
        self.assertEqual(pairs_of(pair_board(2), 99), [("low", "top", 1, 25)])
        self.assertEqual(pairs_of(pair_board(3), 99), [("low", "top", 0, 25)])
        self.assertEqual(pairs_of(pair_board(10), 99), [("low", "top", -7, 25)])
        # Mid isn't awake, so it doesn't hold top, though low is.
        guards = (("top", None, ((5, 3),), 0, 9), ("mid", "top", ((8, 2),), 0, 9), ("low", "mid", ((4, 6),), 0, 0))
        self.assertEqual(pairs_of((guards, ()), 7), [("low", "top", 4, 5)])
        self.assertEqual(pairs_of((guards, ()), 8), [("mid", "top", -9, 8), ("low", "mid", -4, 8), ("low", "top", 4, 5)])

    def test_the_least_greatness_of_the_greatest_lack(self):
        # From 15 on 5 and 9 turns, from 25 on 5 and 4, from 37 on 4 and 4, from 55 on 4 and 1, from 97 on 1 and 1.
        curve = ((10, 5), (40, 4), (100, 1))
        self.assertEqual(pairs_of(pair_board(0, curve), 54), [("low", "top", 2, 25)])
        self.assertEqual(pairs_of(pair_board(0, curve), 55), [("low", "top", 4, 55)])
        self.assertEqual(pairs_of(pair_board(0, curve), 999), [("low", "top", 4, 55)])
        # The same lack twice, less between.
        curve = ((10, 5), (40, 2))
        self.assertEqual(pairs_of(pair_board(0, curve), 999), [("low", "top", 2, 25)])

    def test_below_nought(self):
        self.assertEqual(pairs_of(pair_board(0, ((10, 2), (18, 1))), 15), [("low", "top", -7, 15)])
        self.assertEqual(pairs_of(pair_board(GREATEST), 99), [("low", "top", 3 - GREATEST, 25)])

    def test_a_lower_that_meets_no_step(self):
        self.assertEqual(pairs_of(pair_board(0, ((60, 2),)), 56), [])
        self.assertEqual(pairs_of(pair_board(0, ((60, 2),)), 57), [("low", "top", 2, 57)])

    def test_own_delays_have_no_say(self):
        for delays in ((0, 9), (9, 0), (GREATEST, 1), (5, GREATEST), (10 ** 80, 10 ** 70)):
            self.assertEqual(pairs_of(pair_board(0, delays=delays), 99), [("low", "top", 3, 25)])

    def test_by_the_lower_then_the_nearest_upper(self):
        guards = (*chain(3, ((5, 2),)), ("d", None, ((5, 2),), 0, 0), ("e", "b", ((5, 2),), 0, 0), ("f", "d", ((5, 1),), 0, 0))
        self.assertEqual(pairs_of((guards, ()), 9),
                         [("b", "a", 1, 5), ("c", "b", 1, 5), ("c", "a", 1, 5), ("e", "b", 1, 5), ("e", "a", 1, 5),
                          ("f", "d", 0, 5)])
        self.assertEqual(pairs_of((guards[:1], ()), 9), [])

    def test_against_all_greatnesses(self):
        rng = random.Random(90)
        mores = []
        for _ in range(300):
            board = quiet_board(rng, 6)
            most = rng.randint(1, 14)
            told = pairs_of(board, most)
            self.assertIs(type(told), list)
            self.assertEqual(told, plain.pairs(board, most))
            mores += [row[2] for row in told]
        for few in (-3, -2, -1, 0, 1, 2, 3):
            self.assertIn(few, mores)

    def test_great_numbers(self):
        board = ((("top", None, ((10 ** 59, GREATEST), (GREATEST, 1)), 5, 10 ** 30),
                  ("low", "top", ((10 ** 58, GREATEST), (9 * 10 ** 59, 10 ** 59)), 3, 0)),
                 (("lamp", "low", (), 10 ** 50, True),))
        self.assertEqual(pairs_of(board, 10 ** 59), [("low", "top", 1 - 10 ** 30, 10 ** 59 - 10 ** 50)])
        self.assertEqual(pairs_of(board, GREATEST), [("low", "top", 10 ** 59 - 10 ** 30, GREATEST - 10 ** 50)])

    def test_loud(self):
        with self.assertRaises(Loud) as caught:
            pairs_of(noisy(pair_board()), 9)
        self.assertEqual(caught.exception.guard, "top")
        with self.assertRaises(Loud) as caught:
            pairs_of(((("other", None, ((9, 9),), 0, 0), ("top", None, ((1, 1),), 0, 0)), (("a", "top", (), 1, True),)), 9)
        self.assertEqual(caught.exception.guard, "top")

    def test_a_list_of_the_askers_own(self):
        pairs_of(pair_board(), 99).clear()
        self.assertEqual(pairs_of(pair_board(), 99), [("low", "top", 3, 25)])


class BlindPairs(unittest.TestCase):
    def test_a_pair(self):
        # Top is awake from 15 on, low from 7 on; and from 16 on; and from 15 on.
        self.assertIsNone(blind(pair_board(), GREATEST))
        self.assertIsNone(blind(pair_board(0, ((19, 6),)), 14))
        self.assertEqual(blind(pair_board(0, ((19, 6),)), 15), ("low", "top", 15))
        self.assertEqual(blind(pair_board(0, ((19, 6),)), 16), ("low", "top", 15))
        self.assertEqual(blind(pair_board(0, ((19, 6),)), GREATEST), ("low", "top", 15))
        self.assertIsNone(blind(pair_board(0, ((18, 6),)), GREATEST))

    def test_the_first_pair_then_its_least_fault(self):
        # By faults at c first a is awake, then b, then c itself.
        guards = (("a", None, ((5, 2),), 0, 0), ("b", "a", ((5, 2), (6, 1)), 0, 0), ("c", "b", ((9, 2),), 0, 0))
        self.assertEqual(blind((guards, (("lamp", "a", (), 3, True),)), 9), ("b", "a", 2))
        self.assertEqual(blind((guards, ()), 9), ("c", "b", 5))
        lamps = (("lamp", "b", (), 2, True), ("fan", "a", (), 0, True))
        self.assertEqual(blind((guards, lamps), 9), ("c", "b", 3))
        guards = (("a", None, ((5, 2),), 0, 0), ("b", "a", ((3, 2),), 0, 0), ("c", "b", ((4, 2),), 0, 0))
        self.assertEqual(blind((guards, ()), 9), ("c", "b", 3))
        lamps = (("fan", "a", (), 3, True),)
        self.assertEqual(blind((guards, lamps), 9), ("b", "a", 2))
        lamps = (("fan", "a", (), 2, True),)
        self.assertEqual(blind((guards, lamps), 9), ("c", "b", 3))
        self.assertIsNone(blind((guards, lamps), 2))

    def test_in_the_order_of_the_lowers(self):
        guards = (("a", None, ((3, 2),), 0, 0), ("b", "a", ((4, 2),), 0, 0), ("c", "b", ((9, 2),), 0, 0))
        self.assertEqual(blind((guards, ()), 3), ("b", "a", 3))
        self.assertEqual(blind((guards, ()), 9), ("b", "a", 3))
        guards = (("a", None, ((3, 2),), 0, 0), ("b", None, ((9, 2),), 0, 0), ("c", "b", ((9, 2),), 0, 0),
                  ("d", "a", ((3, 1),), 0, 0), ("e", "d", ((4, 1),), 0, 0))
        self.assertEqual(blind((guards, ()), 3), ("e", "d", 3))

    def test_waits_and_own_delays_have_no_say(self):
        for wait, delays in ((0, (0, 9)), (GREATEST, (9, 0)), (5, (10 ** 80, 0))):
            self.assertEqual(blind(pair_board(wait, ((19, 6),), delays), 15), ("low", "top", 15))
            self.assertIsNone(blind(pair_board(wait, delays=delays), 99))

    def test_against_all_greatnesses(self):
        rng = random.Random(91)
        found = []
        for _ in range(400):
            board = quiet_board(rng, 6)
            most = rng.randint(1, 14)
            told = blind(board, most)
            self.assertEqual(told, (plain.blind(board, most) + [None])[0])
            found.append(told)
        self.assertGreater(found.count(None), 50)
        self.assertGreater(len(found) - found.count(None), 50)

    def test_great_numbers(self):
        board = ((("top", None, ((10 ** 59, 1),), 0, 0), ("low", "top", ((GREATEST, 1),), 0, 0)), ())
        self.assertEqual(blind(board, GREATEST), ("low", "top", 10 ** 59))
        self.assertIsNone(blind(board, 10 ** 59 - 1))

    def test_loud(self):
        for board in (noisy(pair_board()), noisy(pair_board(0, ((19, 6),)))):
            with self.assertRaises(Loud) as caught:
                blind(board, 99)
            self.assertEqual(caught.exception.guard, "top")


if __name__ == "__main__":
    unittest.main()
