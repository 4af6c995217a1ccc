"""Points 11 and 12: fed places, pulls and draws; rest, awake, held, quiet."""

import itertools
import random
import unittest

from fuseboard.boards import guards_of
from fuseboard.draws import awake, draws, fed, held, loud, quiet_rest, rest
from fuseboard.errors import Loud, NoPlace
from tests import plain
from tests.plain import GREATEST, HOUSE, ODD_THINGS, TOP, chain

NOBODY = {name: 0 for name in ("main", "up", "down", "attic", "spare", "kitchen", "empty")}


def some_pulls(rng, board):
    """Pulls at some places by chance."""
    return {place: rng.choice((0, 1, 2, 50, GREATEST, 10 ** 80)) for place in plain.places(board)
            if rng.random() < 0.6}


class Fed(unittest.TestCase):
    def test_none_open(self):
        for place in plain.places(HOUSE):
            self.assertIs(fed(HOUSE, [], place), True)
            self.assertIs(fed(HOUSE, (), place), True)

    def test_behind_an_open_guard(self):
        unfed = {"up": {"up", "attic", "empty", "lamp", "fan"}, "attic": {"attic", "lamp"}, "spare": {"spare", "heater"},
                 "kitchen": {"kitchen", "motor", "stove"}, "empty": {"empty"},
                 "main": set(plain.places(HOUSE)) - {"spare", "heater"}}
        for guard, without in unfed.items():
            for opened in ([guard], (guard,), [guard, guard]):
                for place in plain.places(HOUSE):
                    self.assertIs(fed(HOUSE, opened, place), place not in without)

    def test_whatever_order_and_more_than_once(self):
        names = guards_of(HOUSE)
        for opened in itertools.product(names, repeat=3):
            for place in plain.places(HOUSE):
                told = plain.fed(HOUSE, opened, place)
                self.assertIs(fed(HOUSE, opened, place), told)
                self.assertIs(fed(HOUSE, list(opened), place), told)

    def test_the_last_of_eight(self):
        board = (chain(8), (("lamp", "h", (), 0, True),))
        for guard in "abcdefgh":
            self.assertIs(fed(board, [guard], "lamp"), False)
            for place in "abcdefgh":
                self.assertIs(fed(board, [guard], place), place < guard)

    def test_what_is_no_place(self):
        for opened in ([], ("main",), ["spare", "up"]):
            for thing in ODD_THINGS + ("mai", "mains", " lamp"):
                self.assertRaises(NoPlace, fed, HOUSE, opened, thing)


class Draws(unittest.TestCase):
    def test_pulls_at_guards_and_loads(self):
        self.assertEqual(draws(HOUSE, [], {}), NOBODY)
        self.assertEqual(draws(HOUSE, [], {"lamp": 5}), {**NOBODY, "attic": 5, "up": 5, "main": 5})
        self.assertEqual(draws(HOUSE, [], {"attic": 5}), {**NOBODY, "attic": 5, "up": 5, "main": 5})
        self.assertEqual(draws(HOUSE, [], {"main": 7}), {**NOBODY, "main": 7})
        self.assertEqual(draws(HOUSE, [], {"heater": 3, "spare": 4}), {**NOBODY, "spare": 7})
        self.assertEqual(draws(HOUSE, [], {"stove": 1, "kitchen": 10, "down": 100, "main": 1000, "bell": 10000,
                                           "lamp": 100000, "attic": 1000000, "up": 10000000}),
                         {**NOBODY, "kitchen": 11, "down": 111, "attic": 1100000, "up": 11100000, "main": 11111111})

    def test_open_guards(self):
        pulls = {"lamp": 1, "attic": 2, "up": 4, "fan": 8, "main": 16, "bell": 32, "motor": 64, "spare": 128}
        whole = {**NOBODY, "attic": 3, "up": 15, "down": 64, "kitchen": 64, "main": 127, "spare": 128}
        self.assertEqual(draws(HOUSE, (), pulls), whole)
        self.assertEqual(draws(HOUSE, ["attic"], pulls), {**whole, "attic": 0, "up": 12, "main": 124})
        self.assertEqual(draws(HOUSE, ["up"], pulls), {**whole, "attic": 0, "up": 0, "main": 112})
        self.assertEqual(draws(HOUSE, ["main"], pulls), {**NOBODY, "spare": 128})
        self.assertEqual(draws(HOUSE, ["spare", "main"], pulls), NOBODY)
        self.assertEqual(draws(HOUSE, ["kitchen", "attic", "attic"], pulls),
                         {**whole, "attic": 0, "up": 12, "down": 0, "kitchen": 0, "main": 60})

    def test_whatever_order_and_more_than_once(self):
        pulls = {place: 2 ** at for at, place in enumerate(plain.places(HOUSE))}
        for opened in itertools.product(guards_of(HOUSE), repeat=3):
            told = plain.draws(HOUSE, opened, pulls)
            self.assertEqual(draws(HOUSE, opened, pulls), told)
            self.assertEqual(draws(HOUSE, list(opened), pulls), told)

    def test_great_numbers(self):
        pulls = {place: GREATEST for place in plain.places(HOUSE)}
        self.assertEqual(draws(HOUSE, [], pulls)["main"], 11 * GREATEST)
        self.assertEqual(draws(HOUSE, [], {"lamp": 10 ** 5000, "up": 1})["main"], 10 ** 5000 + 1)
        board = (chain(8), tuple(("l" + letter, "h", (), 0, True) for letter in "abcdefghijklmnopqrstuvwx"))
        self.assertEqual(draws(board, [], {load[0]: GREATEST for load in board[1]}),
                         {name: 24 * GREATEST for name in "abcdefgh"})

    def test_many_boards_by_the_words_of_the_point(self):
        rng = random.Random(7)
        for _ in range(300):
            board = plain.small_board(rng, 16, 24)
            opened = [rng.choice(guards_of(board)) for _ in range(rng.randint(0, 4))]
            pulls = some_pulls(rng, board)
            self.assertEqual(draws(board, opened, pulls), plain.draws(board, opened, pulls))

    def test_a_dict_with_each_guard_in_order(self):
        told = draws(HOUSE, ["main"], {"lamp": 1})
        self.assertIs(type(told), dict)
        self.assertEqual(list(told), guards_of(HOUSE))
        self.assertEqual({type(draw) for draw in told.values()}, {int})

    def test_what_is_handed_in_is_not_changed(self):
        opened, pulls = ["up", "up", "spare"], {"lamp": 1, "up": 2}
        told = draws(HOUSE, opened, pulls)
        fed(HOUSE, opened, "lamp")
        self.assertEqual((opened, pulls), (["up", "up", "spare"], {"lamp": 1, "up": 2}))
        opened.clear()
        pulls.clear()
        self.assertEqual(told, NOBODY)

    def test_the_dict_is_the_askers_own(self):
        pulls = {"main": 3}
        draws(HOUSE, [], pulls)["main"] = 99
        rest(HOUSE)["main"] = 99
        self.assertEqual(draws(HOUSE, [], pulls)["main"], 3)
        self.assertEqual(rest(HOUSE)["main"], 10)
        self.assertEqual(pulls, {"main": 3})


class AtRest(unittest.TestCase):
    def test_rest(self):
        self.assertEqual(rest(HOUSE), {"main": 10, "up": 4, "down": 5, "attic": 2, "spare": 0, "kitchen": 5, "empty": 0})
        self.assertEqual(rest(((TOP,), ())), {"main": 0})

    def test_courses_have_no_say_and_only_loads_that_are_on(self):
        board = ((TOP,), (("a", "main", ((5, 70),), 1, True), ("b", "main", ((5, 70),), 20, False),
                          ("c", "main", (), GREATEST, True)))
        self.assertEqual(rest(board), {"main": GREATEST + 1})

    def test_many_boards(self):
        rng = random.Random(8)
        for _ in range(200):
            board = plain.small_board(rng, 10, 10)
            told = plain.draws(board, [], {load[0]: load[3] for load in board[1] if load[4]})
            self.assertEqual(rest(board), told)
            self.assertEqual(list(rest(board)), guards_of(board))


class Awake(unittest.TestCase):
    def test_at_one_below_and_one_above_the_least(self):
        for name, least in (("main", 100), ("up", 50), ("down", 40), ("attic", 10), ("spare", 5), ("empty", 7)):
            self.assertEqual(awake(HOUSE, {**NOBODY, name: least - 1}), [])
            self.assertEqual(awake(HOUSE, {**NOBODY, name: least}), [name])
            self.assertEqual(awake(HOUSE, {**NOBODY, name: least + 1}), [name])
            self.assertEqual(awake(HOUSE, {**NOBODY, name: 10 ** 80}), [name])

    def test_in_order(self):
        found = {name: 1000 for name in reversed(guards_of(HOUSE))}
        self.assertEqual(awake(HOUSE, found), guards_of(HOUSE))
        self.assertEqual(awake(HOUSE, {**found, "up": 49, "spare": 0}), ["main", "down", "attic", "kitchen", "empty"])
        self.assertEqual(awake(HOUSE, NOBODY), [])

    def test_a_list_of_the_askers_own_and_found_as_it_was(self):
        found = {**NOBODY, "up": 50}
        told = awake(HOUSE, found)
        self.assertIs(type(told), list)
        told.append("x")
        self.assertEqual(awake(HOUSE, found), ["up"])
        held(HOUSE, found, "main")
        self.assertEqual(found, {**NOBODY, "up": 50})


class Held(unittest.TestCase):
    def test_by_a_kid_at_one_below_and_one_above_its_least(self):
        for under, kid, least in (("main", "up", 50), ("main", "down", 40), ("up", "attic", 10), ("up", "empty", 7),
                                  ("down", "kitchen", 20)):
            for draw, told in ((least - 1, False), (least, True), (least + 1, True), (10 ** 80, True)):
                self.assertIs(held(HOUSE, {**NOBODY, kid: draw}, under), told)

    def test_not_by_itself_nor_by_kids_of_kids_nor_by_those_over_it(self):
        for name in guards_of(HOUSE):
            self.assertIs(held(HOUSE, {**NOBODY, name: 1000}, name), False)
        self.assertIs(held(HOUSE, {**NOBODY, "attic": 1000}, "main"), False)
        self.assertIs(held(HOUSE, {**NOBODY, "main": 1000, "up": 1000}, "attic"), False)
        self.assertIs(held(HOUSE, {**NOBODY, "down": 1000}, "up"), False)
        self.assertIs(held(HOUSE, {**NOBODY, "main": 1000}, "spare"), False)

    def test_many_boards_by_the_words_of_the_point(self):
        rng = random.Random(9)
        for _ in range(200):
            board = plain.small_board(rng, 10, 10)
            found = {name: rng.randint(0, 10) for name in guards_of(board)}
            self.assertEqual(awake(board, found), plain.awake(board, found))
            for name in guards_of(board):
                self.assertIs(held(board, found, name), plain.held(board, found, name))

    def test_what_is_no_guard(self):
        for found in (NOBODY, {name: 1000 for name in NOBODY}):
            for thing in ODD_THINGS + ("lamp", "motor", "fan", "mains"):
                self.assertRaises(NoPlace, held, HOUSE, found, thing)


class LoudBoards(unittest.TestCase):
    def test_quiet(self):
        self.assertIsNone(loud(HOUSE))
        self.assertIsNone(loud(((TOP,), ())))

    def test_at_one_below_and_one_above_the_least(self):
        for last, told in ((99, None), (100, "main"), (101, "main"), (GREATEST, "main")):
            self.assertEqual(loud(((TOP,), (("x", "main", ((1, 500),), last, True),))), told)
            self.assertIsNone(loud(((TOP,), (("x", "main", ((1, 500),), last, False),))))
            self.assertEqual(loud(((TOP,), (("x", "main", (), last - 40, True), ("y", "main", (), 40, True)))), told)

    def test_the_first_in_order(self):
        def with_last(at, last):
            guards, loads = HOUSE
            return guards, loads[:at] + ((*loads[at][:3], last, True),) + loads[at + 1:]
        self.assertEqual(loud(with_last(0, 12)), "attic")
        self.assertEqual(loud(with_last(0, 48)), "up")
        self.assertEqual(loud(with_last(0, 1000)), "main")
        self.assertEqual(loud(with_last(2, 15)), "kitchen")
        self.assertEqual(loud(with_last(2, 35)), "down")
        self.assertEqual(loud(with_last(4, 5)), "spare")
        self.assertIsNone(loud(with_last(4, 4)))

    def test_many_boards(self):
        rng = random.Random(10)
        for _ in range(300):
            board = plain.small_board(rng)
            names = plain.awake(board, plain.draws(board, [], {load[0]: load[3] for load in board[1] if load[4]}))
            self.assertEqual(loud(board), names[0] if names else None)
            if names:
                with self.assertRaises(Loud) as caught:
                    quiet_rest(board)
                self.assertEqual(caught.exception.guard, names[0])
            else:
                self.assertEqual(quiet_rest(board), rest(board))


if __name__ == "__main__":
    unittest.main()
