"""Points 20 to 22: the opening of a fault that comes at rest, the map of a place, what a place lets through."""

import itertools
import random
import unittest

from fuseboard.errors import Loud, NoPlace
from fuseboard.maps import lets_through, map_of, opening_of
from tests import plain
from tests.plain import GREATEST, HOUSE, ODD_THINGS, TOO_GREAT, quiet_board, some_stuck

# low draws 3 at rest, top 5; a fault at low of 7 wakes low, one of 15 wakes top.
PAIR = (
    (("top", None, ((20, 9), (30, 4), (60, 1)), 2, 3), ("low", "top", ((10, 6), (40, 2)), 1, 50)),
    (("lamp", "low", ((9, 99),), 3, True), ("fan", "top", (), 2, True), ("stove", "low", (), 70, False)),
)
# Three guards one over another that open together at one greatness, and a fourth beside them.
LADDER = (
    (("a", None, ((6, 7),), 0, 1), ("b", "a", ((6, 5),), 2, 1), ("c", "b", ((5, 9), (6, 8)), 0, 0),
     ("d", "a", ((1, 1),), 0, 0)),
    (("lamp", "c", (), 2, True),),
)
NOISY = ((("top", None, ((5, 3),), 0, 0), ("low", "top", ((9, 2), (12, 1)), 0, 0), ("other", None, ((1, 9),), 0, 0)),
         (("lamp", "low", (), 5, True), ("fan", "other", (), 1, True)))


class OpeningOf(unittest.TestCase):
    def test_one_guard(self):
        board = ((("top", None, ((10, 4), (20, 2)), 1, 7),), ())
        self.assertIsNone(opening_of(board, "top", 0))
        self.assertIsNone(opening_of(board, "top", 9))
        self.assertEqual(opening_of(board, "top", 10), (4, ("top",)))
        self.assertEqual(opening_of(board, "top", 19), (4, ("top",)))
        self.assertEqual(opening_of(board, "top", 20), (2, ("top",)))
        self.assertEqual(opening_of(board, "top", GREATEST), (2, ("top",)))

    def test_what_is_drawn_at_rest_counts(self):
        self.assertIsNone(opening_of(PAIR, "low", 6))
        self.assertEqual(opening_of(PAIR, "low", 7), (6, ("low",)))
        self.assertEqual(opening_of(PAIR, "lamp", 7), (6, ("low",)))
        self.assertEqual(opening_of(PAIR, "top", 14), None)
        self.assertEqual(opening_of(PAIR, "top", 15), (10, ("top",)))
        self.assertEqual(opening_of(PAIR, "fan", 15), (10, ("top",)))

    def test_a_wait_where_a_kid_is_awake(self):
        # By a fault of 25 at low top meets its second step: 4 and 2, and 3 more as low is awake.
        self.assertEqual(opening_of(PAIR, "low", 25), (6, ("low",)))
        self.assertEqual(opening_of(PAIR, "low", 25, ["low"]), (8, ("top",)))
        self.assertEqual(opening_of(PAIR, "top", 25), (5, ("top",)))
        # A kid that is stuck holds too; one that isn't awake doesn't.
        self.assertEqual(opening_of(LADDER, "c", 4, ["c"]), (7, ("a", "b")))
        self.assertEqual(opening_of(LADDER, "c", 4, ["c", "b"]), (7, ("a",)))
        self.assertEqual(opening_of(LADDER, "b", 4, ["b"]), (7, ("a",)))
        self.assertEqual(opening_of(LADDER, "a", 4), (6, ("a",)))

    def test_several_together_in_order(self):
        self.assertEqual(opening_of(LADDER, "c", 4), (7, ("a", "b", "c")))
        self.assertEqual(opening_of(LADDER, "lamp", 4), (7, ("a", "b", "c")))
        self.assertEqual(opening_of(LADDER, "c", 3), (8, ("c",)))
        self.assertEqual(opening_of(LADDER, "d", 4), (0, ("d",)))

    def test_nothing_opens(self):
        for place in plain.places(PAIR):
            self.assertIsNone(opening_of(PAIR, place, 0))
            self.assertIsNone(opening_of(PAIR, place, GREATEST, ["top", "low"]))
        for greatness in (1, 7, 100, GREATEST):
            self.assertIsNone(opening_of(PAIR, "stove", greatness))
            self.assertIsNone(opening_of(PAIR, "stove", greatness, ["low"]))

    def test_stuck_in_all_its_forms(self):
        for stuck in (None, [], ()):
            self.assertEqual(opening_of(PAIR, "low", 7, stuck), (6, ("low",)))
        for stuck in (["low"], ("low",), ["low", "low"], ("low", "low")):
            self.assertIsNone(opening_of(PAIR, "low", 7, stuck))
            self.assertEqual(opening_of(PAIR, "low", 15, stuck), (13, ("top",)))
        stuck = ["low", "low"]
        opening_of(PAIR, "low", 15, stuck)
        self.assertEqual(stuck, ["low", "low"])

    def test_against_runs_gone_turn_by_turn(self):
        rng = random.Random(70)
        found = []
        for _ in range(120):
            board = quiet_board(rng)
            stuck = some_stuck(rng, board)
            for place in plain.places(board):
                for greatness in range(0, 12):
                    told = opening_of(board, place, greatness, stuck)
                    self.assertEqual(told, plain.opening(board, place, greatness, tuple(stuck or ())))
                    found.append(0 if told is None else len(told[1]))
        for many in (0, 1, 2, 3):
            self.assertIn(many, found)

    def test_at_most_one_opening(self):
        rng = random.Random(71)
        for _ in range(60):
            board = quiet_board(rng)
            stuck = some_stuck(rng, board)
            place, greatness = rng.choice(plain.places(board)), rng.randint(1, 15)
            run = plain.plain_run(board, stuck, [(0, ("fault", place, greatness))], 60)
            told = opening_of(board, place, greatness, stuck)
            self.assertEqual(run.openings, [] if told is None else [told])

    def test_great_numbers(self):
        board = ((("top", None, ((10 ** 59, GREATEST),), GREATEST, GREATEST), ("low", "top", ((GREATEST, 1),), 0, 0)),
                 (("lamp", "low", (), 10 ** 58, True),))
        self.assertIsNone(opening_of(board, "low", 9 * 10 ** 58 - 1))
        self.assertEqual(opening_of(board, "low", 9 * 10 ** 58), (2 * GREATEST - 1, ("top",)))
        self.assertEqual(opening_of(board, "low", GREATEST), (0, ("low",)))
        self.assertEqual(opening_of(board, "low", GREATEST, ["low"]), (3 * GREATEST - 1, ("top",)))


class MapCase(unittest.TestCase):
    def assert_map(self, board, place, most, stuck):
        """A map against the point's words; the opening of each row at its low, its high and between."""
        rows = map_of(board, place, most, stuck)
        self.assertIs(type(rows), list)
        ahead = 0
        for low, high, opening in rows:
            self.assertEqual(low, ahead + 1)
            self.assertLessEqual(low, high)
            for greatness in (low, high, (low + high) // 2):
                self.assertEqual(opening_of(board, place, greatness, stuck), opening)
            ahead = high
        self.assertEqual(ahead, most)
        self.assertFalse([row for row, other in zip(rows, rows[1:]) if row[2] == other[2]])
        self.assertEqual({type(row) for row in rows}, {tuple})
        return rows


class MapOf(MapCase):
    def test_a_map(self):
        self.assertEqual(map_of(PAIR, "low", 60),
                         [(1, 6, None), (7, 36, (6, ("low",))), (37, 60, (2, ("low",)))])
        self.assertEqual(map_of(PAIR, "low", 60, ["low"]),
                         [(1, 14, None), (15, 24, (13, ("top",))), (25, 54, (8, ("top",))), (55, 60, (5, ("top",)))])
        self.assertEqual(map_of(PAIR, "top", 60),
                         [(1, 14, None), (15, 24, (10, ("top",))), (25, 54, (5, ("top",))), (55, 60, (2, ("top",)))])

    def test_most_at_below_and_above_where_another_step_is_met(self):
        self.assertEqual(map_of(PAIR, "low", 1), [(1, 1, None)])
        self.assertEqual(map_of(PAIR, "low", 6), [(1, 6, None)])
        self.assertEqual(map_of(PAIR, "low", 7), [(1, 6, None), (7, 7, (6, ("low",)))])
        self.assertEqual(map_of(PAIR, "low", 8), [(1, 6, None), (7, 8, (6, ("low",)))])
        self.assertEqual(map_of(PAIR, "low", 36), [(1, 6, None), (7, 36, (6, ("low",)))])
        self.assertEqual(map_of(PAIR, "low", 37), [(1, 6, None), (7, 36, (6, ("low",))), (37, 37, (2, ("low",)))])
        self.assertEqual(map_of(PAIR, "low", 38), [(1, 6, None), (7, 36, (6, ("low",))), (37, 38, (2, ("low",)))])

    def test_from_1_on_something_opens(self):
        board = ((("top", None, ((4, 3), (5, 2)), 0, 0),), (("lamp", "top", (), 3, True),))
        self.assertEqual(map_of(board, "top", 5), [(1, 1, (2, ("top",))), (2, 5, (1, ("top",)))])
        self.assertEqual(map_of(board, "top", 1), [(1, 1, (2, ("top",)))])

    def test_nothing_opens(self):
        self.assertEqual(map_of(PAIR, "stove", 99), [(1, 99, None)])
        self.assertEqual(map_of(PAIR, "low", GREATEST, ["low", "top"]), [(1, GREATEST, None)])

    def test_against_all_greatnesses(self):
        rng = random.Random(72)
        for _ in range(100):
            board = quiet_board(rng)
            stuck = some_stuck(rng, board)
            for place in plain.places(board):
                most = rng.randint(1, 14)
                rows = self.assert_map(board, place, most, stuck)
                told = [plain.opening(board, place, greatness, tuple(stuck or ())) for greatness in range(1, most + 1)]
                self.assertEqual([opening for low, high, opening in rows for _ in range(low, high + 1)], told)
                self.assertEqual(len(rows), len(list(itertools.groupby(told))))

    def test_a_most_of_sixty_figures_is_answered_at_once(self):
        guards = []
        for at, name in enumerate("abcdefgh"):
            curve = tuple((10 ** (58 - step) * (9 - at) + at, 10 ** (9 + step) + at) for step in (4, 3, 2, 1, 0))
            guards.append((name, "abcdefgh"[at - 1] if at else None, curve, 10 ** 50, 10 ** 49))
        loads = tuple(("l" + letter, "abcdefgh"[at % 8], (), 10 ** 20 + at, at % 5 > 0)
                      for at, letter in enumerate("abcdefghijklmnopqrstuvwx"))
        board = tuple(guards), loads
        for place in plain.places(board):
            for most in (GREATEST, 10 ** 58 * 3 + 17, 1):
                self.assert_map(board, place, most, None)
                self.assert_map(board, place, most, ["h", "c"])
        self.assertGreater(len(map_of(board, "h", GREATEST)), 5)

    def test_a_list_of_the_askers_own(self):
        rows = map_of(PAIR, "low", 60)
        kept = list(rows)
        rows.clear()
        self.assertEqual(map_of(PAIR, "low", 60), kept)
        self.assertIsNot(map_of(PAIR, "low", 60), map_of(PAIR, "low", 60))


class LetsThrough(unittest.TestCase):
    def test_the_greatest_product(self):
        # Rows of low: 7 to 36 in seven turns, 37 on in three.
        self.assertEqual(lets_through(PAIR, "low", 36), (252, 36))
        self.assertEqual(lets_through(PAIR, "low", 60), (252, 36))
        self.assertEqual(lets_through(PAIR, "low", 83), (252, 36))
        self.assertEqual(lets_through(PAIR, "low", 85), (255, 85))
        self.assertEqual(lets_through(PAIR, "low", 8), (56, 8))
        self.assertEqual(lets_through(PAIR, "lamp", 85), (255, 85))

    def test_two_of_one_product_the_least(self):
        # 36 in seven turns, 84 in three.
        self.assertEqual(lets_through(PAIR, "low", 84), (252, 36))
        board = ((("top", None, ((2, 6), (3, 4), (4, 3)), 0, 0),), ())
        self.assertEqual(lets_through(board, "top", 2), (12, 2))
        self.assertEqual(lets_through(board, "top", 3), (12, 2))
        self.assertEqual(lets_through(board, "top", 4), (12, 2))
        self.assertEqual(lets_through(board, "top", 5), (15, 5))

    def test_nothing_opens(self):
        self.assertIsNone(lets_through(PAIR, "low", 6))
        self.assertIsNone(lets_through(PAIR, "stove", GREATEST))
        self.assertIsNone(lets_through(PAIR, "low", GREATEST, ("low", "top")))

    def test_another_guard_opens(self):
        self.assertEqual(lets_through(PAIR, "low", 30, ["low"]), (24 * 14, 24))

    def test_against_all_greatnesses(self):
        rng = random.Random(73)
        nothing = twice = 0
        for _ in range(120):
            board = quiet_board(rng)
            stuck = some_stuck(rng, board)
            for place in plain.places(board):
                most = rng.randint(1, 12)
                products = []
                for greatness in range(1, most + 1):
                    told = plain.opening(board, place, greatness, tuple(stuck or ()))
                    if told is not None:
                        products.append((greatness * (told[0] + 1), greatness))
                best = max([product for product, greatness in products], default=None)
                least = [row for row in products if row[0] == best]
                nothing += not least
                twice += len(least) > 1
                self.assertEqual(lets_through(board, place, most, stuck), least[0] if least else None)
        self.assertGreater(nothing, 20)
        self.assertGreater(twice, 5)

    def test_great_numbers(self):
        board = ((("top", None, ((10, GREATEST),), GREATEST, 0),), ())
        self.assertEqual(lets_through(board, "top", GREATEST), (2 * GREATEST * GREATEST, GREATEST))


class Refused(unittest.TestCase):
    def test_loud_with_the_first_awake_guard(self):
        for ask in (opening_of, map_of, lets_through):
            for place in plain.places(NOISY):
                with self.assertRaises(Loud) as caught:
                    ask(NOISY, place, 3)
                self.assertEqual(caught.exception.guard, "top")
                with self.assertRaises(Loud) as caught:
                    ask(NOISY, place, 3, ["top"])
                self.assertEqual(caught.exception.guard, "top")
        with self.assertRaises(Loud) as caught:
            opening_of(NOISY, "low", 0)
        self.assertEqual(caught.exception.guard, "top")

    def test_one_below_it_is_quiet(self):
        quiet = (NOISY[0], (("lamp", "low", (), 4, True), ("fan", "other", (), 0, True)))
        self.assertEqual(opening_of(quiet, "low", 1), (2, ("top",)))
        off = (NOISY[0], (("lamp", "low", (), 5, False), ("fan", "other", (), 1, False)))
        self.assertEqual(opening_of(off, "low", 5), (2, ("top",)))

    def test_no_place(self):
        for ask in (opening_of, map_of, lets_through):
            for board in (HOUSE, PAIR):
                for thing in ODD_THINGS + ("topp", "to", ("top", "low")):
                    if not (isinstance(thing, str) and thing in plain.places(board)):
                        with self.assertRaises(NoPlace):
                            ask(board, thing, 3)

    def test_no_place_ahead_of_loud(self):
        for ask in (opening_of, map_of, lets_through):
            for thing in ODD_THINGS:
                with self.assertRaises(NoPlace):
                    ask(NOISY, thing, 3)
                with self.assertRaises(NoPlace):
                    ask(NOISY, thing, TOO_GREAT, ("top",))


if __name__ == "__main__":
    unittest.main()
