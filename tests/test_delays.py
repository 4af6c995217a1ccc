"""Point 27: the least delays that part a board, what needs them, and boards with other delays."""

import itertools
import random
import unittest

from fuseboard.delays import least_delays, needs, with_delays
from fuseboard.draws import rest
from fuseboard.errors import Blind, Loud
from fuseboard.events import openings_of
from fuseboard.looker import lets_by
from fuseboard.maps import opening_of
from fuseboard.papers import paper_of
from fuseboard.parting import backed, parted
from tests import plain
from tests.plain import GREATEST, HOUSE, chain, pair_board, quiet_board

def names(board):
    return [guard[0] for guard in board[0]]


def seeing_board(rng, *sizes):
    """A quiet board by chance that has no blind pair: curves begin no lower than those of the guards under them."""
    guards, loads = quiet_board(rng, *sizes)
    drawn = plain.rest((guards, loads))
    wakes = {}
    rows = []
    for name, under, curve, delay, wait in reversed(guards):
        lowest = max([wakes[row[0]] for row in rows if row[1] == name], default=0)
        raised = max(0, lowest - (curve[0][0] - drawn[name]))
        rows.append((name, under, tuple((draw + raised, turns) for draw, turns in curve), delay, wait))
        wakes[name] = curve[0][0] + raised - drawn[name]
    return tuple(reversed(rows)), loads


def with_others(board, delays):
    """The board with other delays, in the tests' own words."""
    return tuple((*guard[:3], delays[guard[0]], guard[4]) for guard in board[0]), board[1]


def is_parted(board, most):
    return all(plain.astray(board, place, most) is None for place in plain.places(board))


class LeastDelays(unittest.TestCase):
    def test_a_pair(self):
        self.assertEqual(least_delays(pair_board(), 14), {"top": 0, "low": 0})
        self.assertEqual(least_delays(pair_board(), 24), {"top": 0, "low": 0})
        self.assertEqual(least_delays(pair_board(), 25), {"top": 3, "low": 0})
        self.assertEqual(least_delays(pair_board(2), GREATEST), {"top": 1, "low": 0})
        self.assertEqual(least_delays(pair_board(3), GREATEST), {"top": 0, "low": 0})
        self.assertEqual(least_delays(pair_board(4), GREATEST), {"top": 0, "low": 0})

    def test_own_delays_have_no_say(self):
        for delays in ((0, 9), (9, 0), (GREATEST, GREATEST), (10 ** 80, 0)):
            self.assertEqual(least_delays(pair_board(delays=delays), 99), {"top": 3, "low": 0})

    def test_along_a_chain(self):
        board = (chain(8, ((5, 2),)), ())
        self.assertEqual(least_delays(board, 5), dict(zip("abcdefgh", (7, 6, 5, 4, 3, 2, 1, 0))))
        self.assertEqual(least_delays(board, 4), dict(zip("abcdefgh", (0,) * 8)))

    def test_lacks_below_nought_take_from_what_is_below(self):
        # low and mid 3 apart, mid and top -2, low and top 0: top needs no more than 1.
        guards = (("top", None, ((5, 5),), 0, 0), ("mid", "top", ((5, 2),), 0, 0), ("low", "mid", ((5, 4),), 0, 0))
        self.assertEqual(plain.pairs((guards, ()), 9), [("mid", "top", -2, 5), ("low", "mid", 3, 5), ("low", "top", 0, 5)])
        self.assertEqual(least_delays((guards, ()), 9), {"top": 1, "mid": 3, "low": 0})

    def test_a_far_lower_needs_the_most(self):
        # Mid's wait helps mid, but top isn't held as mid isn't awake up to 7.
        guards = (("top", None, ((5, 3),), 0, 0), ("mid", "top", ((5, 9),), 0, 20), ("low", "mid", ((4, 20),), 0, 0))
        self.assertEqual(least_delays((guards, ()), 7), {"top": 18, "mid": 0, "low": 0})

    def test_a_dict_of_the_askers_own_in_order(self):
        told = least_delays(pair_board(), 99)
        self.assertIs(type(told), dict)
        self.assertEqual(list(told), ["top", "low"])
        told.clear()
        self.assertEqual(least_delays(pair_board(), 99), {"top": 3, "low": 0})
        self.assertEqual(list(least_delays(HOUSE, 5)), names(HOUSE))

    def test_more_than_sixty_figures(self):
        guards = tuple((name, under, ((5, GREATEST), (6, 1)), 0, 0) if name != "h" else (name, under, ((5, GREATEST),), 0, 0)
                       for name, under, *others in chain(8))
        self.assertEqual(least_delays((guards, ()), 5), dict(zip("abcdefgh", (7, 6, 5, 4, 3, 2, 1, 0))))
        told = least_delays((guards, ()), 6)
        self.assertEqual([told[name] for name in "hgfedcba"], [0] + [GREATEST + at for at in range(7)])
        guards = tuple((name, under, ((5, GREATEST), (9 - at, 1)), 0, 0) for at, (name, under, *others) in enumerate(chain(4)))
        loads = tuple(("l" + name, name, (), 0, True) for name in "abcd")
        told = least_delays((guards, loads), GREATEST)
        self.assertEqual(told, {"a": 3, "b": 2, "c": 1, "d": 0})

    def test_delays_that_add_up_beyond_sixty_figures(self):
        # By some fault each guard is still at its long step while the one over it is at its short one already.
        guards = tuple((name, under, ((5, GREATEST), (10 + at, 1)), 0, 0) for at, (name, under, *others) in enumerate(chain(4)))
        told = least_delays((guards, ()), 99)
        self.assertEqual(told, {"a": 3 * GREATEST, "b": 2 * GREATEST, "c": GREATEST, "d": 0})
        board = with_delays((guards, ()), told)
        self.assertIsNone(parted(board, GREATEST))
        self.assertEqual(opening_of(board, "a", 10), (3 * GREATEST, ("a",)))
        for name in "abc":
            self.assertIsNotNone(parted(with_delays(board, {**told, name: told[name] - 1}), GREATEST))

    def test_they_part_the_board(self):
        rng = random.Random(100)
        above = 0
        for _ in range(60):
            most = rng.randint(4, 14)
            board = seeing_board(rng)
            told = least_delays(board, most)
            self.assertEqual(list(told), names(board))
            least = with_others(board, told)
            self.assertTrue(is_parted(least, most))
            self.assertIsNone(parted(least, most))
            for name in told:
                self.assertGreaterEqual(told[name], 0)
                if told[name] > 0:
                    above += 1
                    for most_raised in (0, 1, 9):
                        fewer = {other: told[other] + rng.randint(0, most_raised) for other in told}
                        fewer[name] = told[name] - 1
                        self.assertFalse(is_parted(with_others(board, fewer), most))
        self.assertGreater(above, 30)

    def test_none_that_part_the_board_are_less(self):
        rng = random.Random(101)
        parts = 0
        for _ in range(60):
            most = rng.randint(4, 12)
            board = seeing_board(rng, 4, 2)
            told = least_delays(board, most)
            for _ in range(12):
                others = {name: max(0, told[name] + rng.randint(-1, 3)) for name in told}
                if is_parted(with_others(board, others), most):
                    parts += 1
                    self.assertFalse([name for name in told if others[name] < told[name]])
        self.assertGreater(parts, 60)

    def test_all_delays_of_small_boards(self):
        rng = random.Random(102)
        for _ in range(6):
            board = seeing_board(rng, 3, 1)
            told = least_delays(board, 7)
            for delays in itertools.product(range(4), repeat=len(told)):
                others = dict(zip(told, delays))
                least = with_others(board, others)
                right = all(others[upper] >= others[lower] + more for lower, upper, more, _ in plain.pairs(board, 7))
                self.assertEqual(is_parted(least, 7), right)
                if right:
                    self.assertFalse([name for name in told if others[name] < told[name]])


class Needs(unittest.TestCase):
    def test_a_pair(self):
        self.assertEqual(needs(pair_board(), 24), [])
        self.assertEqual(needs(pair_board(), 25), [("top", "low", 25)])
        self.assertEqual(needs(pair_board(), GREATEST), [("top", "low", 25)])
        self.assertEqual(needs(pair_board(3), GREATEST), [])
        self.assertEqual(needs(pair_board(delays=(77, 5)), GREATEST), [("top", "low", 25)])

    def test_in_order_by_the_first_pair_told(self):
        board = (chain(3, ((5, 2),)), ())
        self.assertEqual(needs(board, 9), [("a", "b", 5), ("b", "c", 5)])
        guards = (*chain(2, ((5, 2),)), ("c", "a", ((4, 2),), 0, 0), ("d", None, ((5, 2), (9, 1)), 0, 0),
                  ("e", "d", ((3, 2),), 0, 0))
        self.assertEqual(needs((guards, ()), 9), [("a", "b", 5), ("d", "e", 9)])
        self.assertEqual(needs((guards, ()), 8), [("a", "b", 5), ("d", "e", 5)])

    def test_not_by_a_pair_that_needs_less(self):
        guards = (("top", None, ((5, 5),), 0, 0), ("mid", "top", ((5, 5),), 0, 0), ("low", "mid", ((4, 9),), 0, 2),
                  ("last", "top", ((5, 20),), 0, 0))
        self.assertEqual(least_delays((guards, ()), 9), {"top": 16, "mid": 5, "low": 0, "last": 0})
        self.assertEqual(needs((guards, ()), 9), [("top", "last", 5), ("mid", "low", 5)])

    def test_against_what_opens(self):
        rng = random.Random(103)
        many = 0
        for _ in range(200):
            most = rng.randint(4, 14)
            board = seeing_board(rng)
            least = least_delays(board, most)
            told = needs(board, most)
            self.assertIs(type(told), list)
            self.assertEqual([row[0] for row in told], [name for name in names(board) if least[name] > 0])
            for guard, lower, greatness in told:
                fewer = with_others(board, {**least, guard: least[guard] - 1})
                self.assertIn(guard, plain.opening(fewer, lower, greatness)[1])
                self.assertNotIn(guard, plain.opening(with_others(board, least), lower, greatness)[1])
                # The first pair told with this upper by whose fault it is so.
                firsts = [(row[0], row[3]) for row in plain.pairs(board, most) if row[1] == guard
                          and guard in plain.opening(fewer, row[0], row[3])[1]]
                self.assertEqual((lower, greatness), firsts[0])
                many += len(firsts) > 1
        self.assertGreater(many, 5)

    def test_great_numbers(self):
        guards = tuple((name, under, ((5, GREATEST), (10 + at, 1)), 0, 0) for at, (name, under, *others) in enumerate(chain(4)))
        self.assertEqual(needs((guards, ()), GREATEST), [("a", "b", 10), ("b", "c", 11), ("c", "d", 12)])

    def test_a_list_of_the_askers_own(self):
        needs(pair_board(), 99).clear()
        self.assertEqual(needs(pair_board(), 99), [("top", "low", 25)])


class Refused(unittest.TestCase):
    def assert_blind(self, board, most, fields):
        for ask in (least_delays, needs):
            with self.assertRaises(Blind) as caught:
                ask(board, most)
            told = caught.exception
            self.assertEqual((told.lower, told.upper, told.greatness), fields)

    def test_blind(self):
        board = pair_board(0, ((19, 6),))
        for ask in (least_delays, needs):
            ask(board, 14)
        self.assert_blind(board, 15, ("low", "top", 15))
        self.assert_blind(board, GREATEST, ("low", "top", 15))
        self.assert_blind(pair_board(GREATEST, ((19, 6),), (10 ** 70, 0)), 99, ("low", "top", 15))

    def test_blind_by_chance(self):
        rng = random.Random(104)
        many = 0
        for _ in range(150):
            board, most = quiet_board(rng), rng.randint(1, 12)
            told = plain.blind(board, most)
            if told:
                many += 1
                self.assert_blind(board, most, told[0])
                # And no delays part it: not even by far greater ones of the upper.
                lower, upper, greatness = told[0]
                others = {name: 5 for name in names(board)}
                others[upper] = 90
                self.assertFalse(is_parted(with_others(board, others), most))
        self.assertGreater(many, 30)

    def test_loud_ahead_of_blind(self):
        for curve in (((10, 6),), ((19, 6),)):
            guards, loads = pair_board(0, curve)
            board = guards, loads + (("noise", "top", (), 15, True),)
            for ask in (least_delays, needs):
                with self.assertRaises(Loud) as caught:
                    ask(board, 99)
                self.assertEqual(caught.exception.guard, "top")


class WithDelays(unittest.TestCase):
    def test_only_delays_are_others(self):
        board = with_delays(pair_board(5), {"top": 4, "low": 10 ** 75})
        self.assertEqual(board, pair_board(5, delays=(4, 10 ** 75)))
        self.assertIs(type(board), tuple)
        self.assertEqual((type(board[0]), type(board[1])), (tuple, tuple))
        self.assertEqual(pair_board(5), pair_board(5, delays=(0, 0)))
        told = {guard[0]: at for at, guard in enumerate(HOUSE[0])}
        self.assertEqual(with_delays(HOUSE, told), with_others(HOUSE, told))

    def test_the_dict_is_not_changed_and_nothing_hangs_on_it(self):
        delays = {"low": 1, "top": 2}
        board = with_delays(pair_board(), delays)
        self.assertEqual(delays, {"low": 1, "top": 2})
        delays["low"] = 9
        self.assertEqual(board, pair_board(delays=(2, 1)))

    def test_a_board_of_a_blind_or_loud_one(self):
        board = pair_board(0, ((3, 6),), (1, 1))
        self.assertEqual(with_delays(board, {"top": 0, "low": 0}), pair_board(0, ((3, 6),)))

    def test_delays_of_any_size_in_other_stages(self):
        board = with_delays(pair_board(), {"top": 10 ** 90, "low": 10 ** 70})
        self.assertEqual(opening_of(board, "low", 7), (10 ** 70 + 5, ("low",)))
        self.assertEqual(opening_of(board, "low", 25, ["low"]), (10 ** 90 + 3, ("top",)))
        self.assertIsNone(parted(board, GREATEST))
        self.assertEqual(least_delays(board, GREATEST), {"top": 3, "low": 0})
        self.assertEqual(backed(board, 99), [("top", ("top", 15)), ("low", ("low", 7))])

    def test_delays_of_any_size_in_runs_and_papers(self):
        great = 10 ** 5000
        board = with_delays(pair_board(), {"top": 2 * great, "low": great})
        self.assertEqual(rest(board), {"top": 5, "low": 3})
        events = [(1, ("fault", "low", 25))]
        self.assertEqual(openings_of(board, None, events, 3 * great), [(great + 6, ("low",))])
        self.assertEqual(openings_of(board, ["low"], events, 3 * great), [(2 * great + 4, ("top",))])
        paper = paper_of(board, None, events, 3 * great)
        self.assertEqual(paper, [(0, 1, (5, 3), ()), (1, great + 7, (30, 28), (("low", 0, 1),)),
                                 (great + 7, 3 * great, (2, 0), ())])
        self.assertIs(lets_by(board, None, events, 3 * great, paper), True)
        self.assertIs(lets_by(board, None, events, 3 * great, paper[:2]), False)


if __name__ == "__main__":
    unittest.main()
