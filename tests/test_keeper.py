"""Points 28 and 29: a keeper's board and rows, and which rows a change changes."""

import random
import unittest

from fuseboard.errors import NoDeed
from fuseboard.keeper import Keeper
from tests import plain
from tests.plain import GREATEST, HOUSE, ODD_THINGS, TOO_GREAT, quiet_board, small_board

GUARDS = (("top", None, ((20, 9), (30, 4), (60, 1)), 0, 0), ("low", "top", ((10, 6), (40, 2)), 0, 0))
LOADS = (("lamp", "low", ((5, 1),), 3, True), ("fan", "top", (), 2, True), ("stove", "low", (), 70, False))
PAIR = GUARDS, LOADS
# By faults at low from 25 on top opens first.
ASTRAY = ("not", 25, ("top",))
PARTED = ("parted",)


class Rows(unittest.TestCase):
    def test_a_quiet_board(self):
        self.assertEqual(Keeper(PAIR, 24).rows(), {"top": (5, PARTED), "low": (3, PARTED), "lamp": (3, PARTED),
                                                   "fan": (2, PARTED), "stove": (0, PARTED)})
        self.assertEqual(Keeper(PAIR, 25).rows(), {"top": (5, PARTED), "low": (3, ASTRAY), "lamp": (3, ASTRAY),
                                                   "fan": (2, PARTED), "stove": (0, PARTED)})
        self.assertEqual(Keeper(PAIR, GREATEST).rows(), Keeper(PAIR, 25).rows())

    def test_several_names(self):
        board = ((("top", None, ((20, 6),), 0, 0), GUARDS[1]), LOADS)
        self.assertEqual(Keeper(board, 99).rows()["lamp"], (3, ("not", 15, ("top", "low"))))

    def test_a_board_that_is_not_quiet(self):
        board = (GUARDS, (*LOADS[:2], ("stove", "low", (), 70, True)))
        awake = ("awake", "top")
        self.assertEqual(Keeper(board, 99).rows(), {"top": (75, awake), "low": (73, awake), "lamp": (3, awake),
                                                    "fan": (2, awake), "stove": (70, awake)})
        board = (GUARDS, (*LOADS[:2], ("stove", "low", (), 7, True)))
        awake = ("awake", "low")
        self.assertEqual(Keeper(board, 99).rows(), {"top": (12, awake), "low": (10, awake), "lamp": (3, awake),
                                                    "fan": (2, awake), "stove": (7, awake)})
        board = (GUARDS, (*LOADS[:2], ("stove", "low", (), 6, True)))
        self.assertEqual(Keeper(board, 9).rows()["low"], (9, PARTED))

    def test_a_dict_in_order_and_the_board(self):
        keeper = Keeper(HOUSE, 50)
        self.assertIs(type(keeper.rows()), dict)
        self.assertEqual(list(keeper.rows()), plain.places(HOUSE))
        self.assertEqual(keeper.board(), HOUSE)

    def test_against_the_words_of_the_points(self):
        rng = random.Random(120)
        verdicts = set()
        for _ in range(120):
            board, most = rng.choice((quiet_board, small_board))(rng), rng.randint(1, 10)
            told = Keeper(board, most).rows()
            self.assertEqual(told, plain.rows(board, most))
            verdicts |= {row[1][0] for row in told.values()}
        self.assertEqual(verdicts, {"awake", "parted", "not"})

    def test_great_numbers(self):
        board = ((("top", None, ((10 ** 59, GREATEST), (GREATEST, 1)), 5, 10 ** 30),
                  ("low", "top", ((10 ** 58, GREATEST), (9 * 10 ** 59, 10 ** 59)), 3, 0)),
                 (("lamp", "low", (), 10 ** 50, True),))
        self.assertEqual(Keeper(board, GREATEST).rows(),
                         {"top": (10 ** 50, PARTED), "low": (10 ** 50, ("not", GREATEST - 10 ** 50, ("top",))),
                          "lamp": (10 ** 50, ("not", GREATEST - 10 ** 50, ("top",)))})


class Changes(unittest.TestCase):
    def assert_changes(self, keeper, change, places):
        ahead, board = keeper.rows(), keeper.board()
        self.assertEqual(keeper.change(change), places)
        behind = keeper.rows()
        self.assertEqual(keeper.board(), plain.changed(board, change))
        self.assertEqual([place for place in ahead if ahead[place] != behind[place]], places)

    def test_each_change(self):
        keeper = Keeper(PAIR, 20)
        self.assert_changes(keeper, ("off", "lamp"), ["top", "low", "lamp"])
        self.assert_changes(keeper, ("on", "lamp"), ["top", "low", "lamp"])
        self.assert_changes(keeper, ("move", "lamp", "top"), ["low"])
        self.assert_changes(keeper, ("move", "lamp", "low"), ["low"])
        self.assert_changes(keeper, ("load", "fan", ((9, 9),), 4), ["top", "fan"])
        self.assert_changes(keeper, ("load", "fan", (), 4), [])
        self.assert_changes(keeper, ("guard", "low", ((10, 8),), 0, 0), [])
        self.assert_changes(keeper, ("guard", "low", ((10, 9),), 0, 0), ["low", "lamp"])
        self.assert_changes(keeper, ("guard", "low", ((20, 9),), 0, 0), ["low", "lamp"])
        self.assert_changes(keeper, ("guard", "low", ((21, 9),), 0, 0), [])
        self.assert_changes(keeper, ("on", "stove"), ["top", "low", "lamp", "fan", "stove"])
        self.assert_changes(keeper, ("load", "stove", ((4, 4),), 0), ["top", "low", "lamp", "fan", "stove"])
        self.assert_changes(keeper, ("off", "stove"), ["stove"])

    def test_a_load_that_is_switched_moved_told_anew(self):
        keeper = Keeper(PAIR, 99)
        self.assertEqual(keeper.change(("move", "lamp", "top")), ["low", "lamp"])
        self.assertEqual(keeper.rows()["lamp"], (3, PARTED))
        self.assertEqual(keeper.change(("load", "lamp", (), 4)), ["top", "low", "lamp"])
        self.assertEqual(keeper.rows()["lamp"], (4, PARTED))
        self.assertEqual(keeper.change(("move", "lamp", "low")), ["low", "lamp"])
        self.assertEqual(keeper.rows()["lamp"], (4, ("not", 24, ("top",))))
        self.assertEqual(keeper.change(("off", "lamp")), ["top", "low", "lamp"])
        self.assertEqual(keeper.rows()["lamp"], (0, PARTED))
        self.assertEqual(keeper.rows()["low"], (0, ("not", 28, ("top",))))
        self.assertEqual(keeper.board()[1][0], ("lamp", "low", (), 4, False))

    def test_a_guard_told_anew(self):
        keeper = Keeper(PAIR, 99)
        self.assertEqual(keeper.change(("guard", "top", GUARDS[0][2], 2, 0)), ["low", "lamp"])
        self.assertEqual(keeper.rows()["low"], (3, ("not", 25, ("top", "low"))))
        self.assertEqual(keeper.change(("guard", "top", GUARDS[0][2], 0, 3)), ["low", "lamp"])
        self.assertEqual(keeper.rows()["low"], (3, PARTED))
        self.assertEqual(keeper.change(("guard", "top", GUARDS[0][2], 3, 0)), [])
        self.assertEqual(keeper.change(("guard", "top", ((5, 1),), 3, 0)), ["top", "low", "lamp", "fan", "stove"])
        self.assertEqual(keeper.rows()["fan"], (2, ("awake", "top")))
        self.assertEqual(keeper.board()[0][0], ("top", None, ((5, 1),), 3, 0))

    def test_what_is_so_already(self):
        keeper = Keeper(PAIR, 99)
        rows = keeper.rows()
        for change in (("on", "lamp"), ("off", "stove"), ("move", "lamp", "low"), ("load", "lamp", ((5, 1),), 3),
                       ("guard", "top", GUARDS[0][2], 0, 0)):
            self.assertEqual(keeper.change(change), [])
            self.assertEqual((keeper.board(), keeper.rows()), (PAIR, rows))

    def test_another_guard_is_awake_first(self):
        keeper = Keeper((GUARDS, (*LOADS[:2], ("stove", "low", (), 70, True))), 99)
        self.assertEqual(keeper.change(("guard", "top", ((76, 1),), 0, 0)), ["top", "low", "lamp", "fan", "stove"])
        self.assertEqual(keeper.rows()["top"], (75, ("awake", "low")))
        self.assertEqual(keeper.change(("guard", "top", ((77, 1),), 0, 0)), [])

    def test_against_the_words_of_the_points(self):
        rng = random.Random(121)
        lengths = set()
        for _ in range(40):
            board, most = rng.choice((quiet_board, small_board))(rng), rng.randint(1, 8)
            keeper = Keeper(board, most)
            ahead = plain.rows(board, most)
            for _ in range(6):
                change = plain.some_change(rng, board)
                board = plain.changed(board, change)
                behind = plain.rows(board, most)
                others = [place for place in plain.places(board) if behind[place] != ahead[place]]
                told = keeper.change(change)
                self.assertIs(type(told), list)
                self.assertEqual(told, others)
                self.assertEqual((keeper.board(), keeper.rows()), (board, behind))
                ahead = behind
                lengths.add(len(others))
        self.assertLessEqual({0, 1, 2, 3}, lengths)


class Refused(unittest.TestCase):
    def test_no_deed_changes_nothing(self):
        keeper = Keeper(PAIR, 99)
        rows = keeper.rows()
        curve = GUARDS[0][2]
        wrong = ODD_THINGS + (
            ["on", "stove"], ("on",), ("on", "stove", 1), ("on", "top"), ("off", "nobody"), ("ON", "stove"), ("open", "top"),
            ("close", "top"), ("fault", "top", 3), ("fault", "lamp", 3), ("move", "lamp"), ("move", "lamp", "fan"),
            ("move", "low", "top"), ("move", "lamp", "nobody"), ("move", "lamp", ["top"]), ("move", "lamp", "top", "top"),
            ("load", "lamp", (), -1), ("load", "lamp", [], 1), ("load", "lamp", ((0, 1),), 1), ("load", "lamp", (), True),
            ("load", "top", (), 1), ("load", "lamp", 1), ("load", "lamp", (), TOO_GREAT), ("load", "lamp", (), 1, True),
            ("guard", "top", (), 0, 0), ("guard", "top", curve, 0), ("guard", "top", curve, False, 0),
            ("guard", "top", curve, 0, None), ("guard", "lamp", curve, 0, 0), ("guard", "top", list(curve), 0, 0),
            ("guard", "top", curve, TOO_GREAT, 0), ("guard", "nobody", curve, 0, 0), ("guard", "top", None, curve, 0, 0),
        )
        for thing in wrong:
            with self.assertRaises(NoDeed):
                keeper.change(thing)
            self.assertEqual((keeper.board(), keeper.rows()), (PAIR, rows))
        self.assertEqual(keeper.change(("off", "lamp")), ["top", "low", "lamp"])


class AskersOwn(unittest.TestCase):
    def test_told_dicts_and_lists_changed_by_the_asker(self):
        keeper = Keeper(PAIR, 99)
        rows = keeper.rows()
        kept = dict(rows)
        rows["top"] = None
        del rows["low"]
        self.assertEqual(keeper.rows(), kept)
        told = keeper.change(("off", "lamp"))
        told.append("nobody")
        self.assertEqual(keeper.change(("on", "lamp")), ["top", "low", "lamp"])
        self.assertEqual(keeper.rows(), kept)
        self.assertIsNot(keeper.rows(), keeper.rows())

    def test_what_was_told_ahead_of_a_change_stays(self):
        keeper = Keeper(PAIR, 99)
        rows, board = keeper.rows(), keeper.board()
        kept = dict(rows)
        keeper.change(("on", "stove"))
        self.assertEqual((rows, board), (kept, PAIR))
        self.assertNotEqual(keeper.rows(), kept)
        self.assertNotEqual(keeper.board(), board)

    def test_two_keepers_side_by_side(self):
        one, other = Keeper(PAIR, 99), Keeper(PAIR, 99)
        one.change(("on", "stove"))
        self.assertEqual(other.board(), PAIR)
        self.assertEqual(other.rows(), Keeper(PAIR, 99).rows())


if __name__ == "__main__":
    unittest.main()
