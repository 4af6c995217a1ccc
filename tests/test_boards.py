"""Points 7, 8 and 9: what a board is, what is wrong in a thing that is none, what is over and behind what."""

import random
import unittest

from fuseboard.boards import behind, guards_of, kids, loads_of, looked, over
from fuseboard.errors import NoBoard, NoPlace
from tests import plain
from tests.plain import GREATEST, HOUSE, ODD_THINGS, TOO_GREAT, TOP, chain

LAMP = ("lamp", "main", (), 5, True)
FIVE = ((10, 500), (20, 100), (40, 50), (80, 5), (160, 1))
LETTERS = "abcdefghijklmnopqrstuvwxyz"


def changed(row, at, thing):
    """A tuple with another thing at this place."""
    return row[:at] + (thing,) + row[at + 1:]


def flat(many):
    """So many tops."""
    return tuple((letter, None, ((1, 1),), 0, 0) for letter in LETTERS[:many])


def lamps(many):
    """So many loads at main."""
    return tuple(("l" + letter, "main", (), 0, False) for letter in LETTERS[:many])


class BoardCase(unittest.TestCase):
    def assert_board(self, thing):
        try:
            self.assertIs(looked(thing), True)
        except NoBoard as refusal:
            self.fail((refusal.word, refusal.number))

    def assert_none(self, thing, word, number):
        with self.assertRaises(NoBoard) as caught:
            looked(thing)
        self.assertEqual((caught.exception.word, caught.exception.number), (word, number))
        self.assertIs(type(caught.exception.number), int)


class BoardsThatAre(BoardCase):
    def test_ordinary_boards(self):
        self.assert_board(HOUSE)
        rng = random.Random(1)
        for _ in range(100):
            self.assert_board(plain.small_board(rng))

    def test_one_and_sixteen_guards(self):
        for many in (1, 2, 15, 16):
            self.assert_board((flat(many), ()))

    def test_none_and_twenty_four_loads(self):
        for many in (0, 1, 23, 24):
            self.assert_board(((TOP,), lamps(many)))
        self.assert_board((flat(15) + (TOP,), lamps(24)))

    def test_a_guard_under_seven_others(self):
        for many in range(1, 9):
            self.assert_board((chain(many), ()))
        self.assert_board((chain(8) + (("z", "g", ((1, 1),), 0, 0), ("y", "a", ((1, 1),), 0, 0)),
                           (("lamp", "h", (), 0, True),)))

    def test_names_of_one_and_of_eight_letters(self):
        for name in ("a", "z", "az", "abcdefgh", "stuvwxyz", "aaaaaaaa", "guard", "load", "on", "off"):
            self.assert_board(((changed(TOP, 0, name),), ()))
            self.assert_board(((TOP,), (changed(LAMP, 0, name),)))
            self.assert_board(((changed(TOP, 0, name), ("kid", name, ((1, 1),), 0, 0)), (changed(LAMP, 1, name),)))

    def test_numbers_of_sixty_figures_and_nought(self):
        for number in (0, 1, GREATEST):
            self.assert_board(((changed(TOP, 3, number),), ()))
            self.assert_board(((changed(TOP, 4, number),), ()))
            self.assert_board(((TOP,), (changed(LAMP, 3, number),)))
            self.assert_board(((TOP,), (changed(LAMP, 2, ((1, number),)),)))
        self.assert_board(((TOP,), (changed(LAMP, 2, ((GREATEST, GREATEST),) * 4),)))
        self.assert_board(((changed(TOP, 2, ((1, GREATEST), (GREATEST, 1))),), ()))

    def test_courses_of_none_to_four_stretches(self):
        for many in range(5):
            self.assert_board(((TOP,), (changed(LAMP, 2, ((3, 0), (1, 9), (1, 9), (7, 2))[:many]),)))

    def test_curves_of_one_to_five_steps(self):
        for many in range(1, 6):
            self.assert_board(((changed(TOP, 2, FIVE[:many]),), ()))

    def test_on_and_off(self):
        for switch in (True, False):
            self.assert_board(((TOP,), (changed(LAMP, 4, switch),)))


class BoardsThatAreNot(BoardCase):
    def test_things_of_other_kinds(self):
        for thing in ODD_THINGS:
            self.assert_none(thing, "board", 0)

    def test_no_tuple_of_two_tuples(self):
        for thing in (((TOP,),), ((TOP,), (LAMP,), ()), ((TOP,), [LAMP]), ([TOP], (LAMP,)), [(TOP,), (LAMP,)],
                      ((TOP,), None), (None, (LAMP,)), ((TOP,), "lamp"), ({}, {}), (TOP, LAMP, LAMP), "ab",
                      {(TOP,): 1, (LAMP,): 2}, ((TOP,), {LAMP: 1})):
            self.assert_none(thing, "board", 0)

    def test_too_few_or_too_many(self):
        self.assert_none(((), ()), "board", 0)
        self.assert_none(((), (LAMP,)), "board", 0)
        self.assert_none((flat(17), ()), "board", 0)
        self.assert_none((flat(26), ()), "board", 0)
        self.assert_none(((TOP,), lamps(25)), "board", 0)
        self.assert_none(((TOP,), lamps(26)), "board", 0)
        self.assert_none(((None,) * 17, ()), "board", 0)
        self.assert_none(((None,), (None,) * 25), "board", 0)
        self.assert_none(((TOP,) * 17, (LAMP,) * 25), "board", 0)

    def test_guards_of_other_kinds_and_lengths(self):
        for at in range(3):
            for thing in ODD_THINGS + (list(TOP), TOP[:4], TOP + (1,), TOP[1:], "guard", dict.fromkeys(range(5))):
                self.assert_none((changed(flat(3), at, thing), ()), "guard", at)

    def test_names_that_are_none(self):
        wrong = ("", "A", "aB", "abcdefghi", "a1", "a b", "a-", "-", "a\n", "\u00e9", "\u0430", "a_", None, 1, True,
                 b"a", ("a",), ["a"], {"a": 1}, 0, "aaaaaaaaa" * 1000, "`", "{")
        for name in wrong:
            self.assert_none(((changed(TOP, 0, name),), ()), "guard", 0)
            self.assert_none(((TOP,), (changed(LAMP, 0, name),)), "load", 0)
            self.assert_none(((TOP,), (changed(LAMP, 1, name),)), "load", 0)
            if name is not None:
                self.assert_none(((TOP, ("kid", name, ((1, 1),), 0, 0)), ()), "guard", 1)

    def test_numbers_that_are_none(self):
        wrong = (-1, TOO_GREAT, 10 ** 5000, -10 ** 5000, True, False, None, "1", b"1", 1.0, (1,), [1], {1: 1}, [], ())
        for thing in wrong:
            self.assert_none(((changed(TOP, 3, thing),), ()), "guard", 0)
            self.assert_none(((changed(TOP, 4, thing),), ()), "guard", 0)
            self.assert_none(((TOP,), (changed(LAMP, 3, thing),)), "load", 0)
            for at in range(4):
                course = ((1, 1),) * at
                self.assert_none(((TOP,), (changed(LAMP, 2, course + ((1, thing),)),)), "load", 0)
                self.assert_none(((TOP,), (changed(LAMP, 2, course + ((thing, 1),)),)), "load", 0)

    def test_curves_that_are_none(self):
        for curve in ((), [], list(FIVE), ((1, 1), (1, 1)), ((5, 600),) + FIVE, ((0, 1),), ((1, 0),), ((True, 1),),
                      ([1, 1],), (1, 1), None, "1:1", ((2, 5), (1, 4)), ((1, 4), (2, 5)), ((1, TOO_GREAT),)):
            self.assert_none(((changed(TOP, 2, curve),), ()), "guard", 0)

    def test_courses_that_are_none(self):
        for course in ([], [(1, 1)], ((1, 1),) * 5, ((0, 1),), ((1, 1), (0, 0)), ((1,),), ((1, 1, 1),), ([1, 1],),
                       (1, 1), None, "", "1:1", {}, ((),), (None,), ("ab",), ((1, 1), None), 0, False):
            self.assert_none(((TOP,), (changed(LAMP, 2, course),)), "load", 0)

    def test_switches_that_are_none(self):
        for switch in (0, 1, None, "on", "off", "True", (), [], (True,), 1.0, 0.0):
            self.assert_none(((TOP,), (changed(LAMP, 4, switch),)), "load", 0)

    def test_names_twice(self):
        for many in range(1, 6):
            for at in range(many):
                self.assert_none((flat(many) + (changed(TOP, 0, LETTERS[at]),) + flat(1), ()), "guard", many)
        two = (TOP, changed(TOP, 0, "other"))
        self.assert_none((two, (LAMP, LAMP)), "load", 1)
        self.assert_none((two, lamps(3) + (changed(LAMP, 0, "la"),)), "load", 3)
        self.assert_none((two, (changed(LAMP, 0, "main"),)), "load", 0)
        self.assert_none((two, (LAMP, changed(LAMP, 0, "other"))), "load", 1)
        self.assert_none((two, (LAMP, changed(LAMP, 1, "other"))), "load", 1)

    def test_under_that_stands_behind_or_is_none(self):
        kid = ("kid", "main", ((1, 1),), 0, 0)
        self.assert_board(((TOP, kid), ()))
        self.assert_none(((kid, TOP), ()), "guard", 0)
        self.assert_none(((TOP, changed(kid, 1, "kid")), ()), "guard", 1)
        self.assert_none(((TOP, changed(kid, 1, "nobody")), ()), "guard", 1)
        self.assert_none(((TOP, kid, changed(TOP, 0, "x"), changed(kid, 0, "y"), changed(kid, 1, "z"),
                           changed(TOP, 0, "z")), ()), "guard", 4)
        self.assert_none(((TOP, changed(kid, 1, "lamp")), (LAMP,)), "guard", 1)
        for thing in ODD_THINGS[1:]:
            self.assert_none(((TOP, changed(kid, 1, thing)), ()), "guard", 1)

    def test_at_that_is_no_guard(self):
        for thing in ODD_THINGS + ("lamp", "other", "mains", "mai"):
            self.assert_none(((TOP,), (changed(LAMP, 1, thing),)), "load", 0)
        self.assert_none(((TOP,), (LAMP, ("other", "lamp", (), 0, True))), "load", 1)

    def test_a_guard_under_eight_others(self):
        for many in (9, 10, 16):
            self.assert_none((chain(many), ()), "guard", 8)
        deep = chain(8)
        ninth = ("z", "h", ((1, 1),), 0, 0)
        self.assert_none((deep + (changed(ninth, 1, "g"), changed(ninth, 0, "y"), changed(ninth, 0, "x")), ()),
                         "guard", 9)
        self.assert_none((flat(1) + tuple(changed(changed(row, 0, "n" + row[0]), 1, row[1] and "n" + row[1])
                                          for row in chain(9)), ()), "guard", 9)

    def test_loads_of_other_kinds_and_lengths(self):
        for at in range(3):
            for thing in ODD_THINGS + (list(LAMP), LAMP[:4], LAMP + (1,), TOP):
                self.assert_none(((TOP,), changed(lamps(3), at, thing)), "load", at)


class TheFirstThatIsWrong(BoardCase):
    def test_the_whole_ahead_of_guards_and_guards_ahead_of_loads(self):
        self.assert_none(((None,), (None,), ()), "board", 0)
        self.assert_none(((None,), [None]), "board", 0)
        self.assert_none(((None,), (None,)), "guard", 0)
        self.assert_none((flat(15) + (None,), (None,)), "guard", 15)
        self.assert_none((flat(16), (None,)), "load", 0)

    def test_the_first_of_several(self):
        wrong = (None, changed(TOP, 3, -1), changed(TOP, 1, "main"), changed(TOP, 0, "a"), list(TOP))
        for first in range(1, 6):
            for later in range(first + 1, 7):
                for one in wrong:
                    for two in wrong:
                        guards = changed(changed(flat(7), first, one), later, two)
                        self.assert_none((guards, (None,)), "guard", first)
        wrong = (None, changed(LAMP, 4, 1), changed(LAMP, 1, "x"), changed(LAMP, 0, "la"), changed(LAMP, 0, "main"))
        for first in range(1, 5):
            for later in range(first + 1, 6):
                for one in wrong:
                    for two in wrong:
                        loads = changed(changed(lamps(6), first, one), later, two)
                        self.assert_none(((TOP,), loads), "load", first)

    def test_every_place_of_a_great_board(self):
        guards, loads = flat(15) + (TOP,), lamps(24)
        for at in range(16):
            self.assert_none((changed(guards, at, None), loads), "guard", at)
        for at in range(24):
            self.assert_none((guards, changed(loads, at, None)), "load", at)

    def test_what_is_handed_in_is_not_changed(self):
        for thing in ([(TOP,), (LAMP,)], ([TOP], [LAMP]), ((list(TOP),), ()), ((TOP,), (list(LAMP),)),
                      ((TOP,), (changed(LAMP, 2, [(1, 1)]),)), {"guards": [TOP]}):
            ahead = repr(thing)
            self.assertRaises(NoBoard, looked, thing)
            self.assertEqual(repr(thing), ahead)


class Places(unittest.TestCase):
    def test_guards_and_loads_in_order(self):
        self.assertEqual(guards_of(HOUSE), ["main", "up", "down", "attic", "spare", "kitchen", "empty"])
        self.assertEqual(loads_of(HOUSE), ["lamp", "motor", "stove", "bell", "heater", "fan"])
        self.assertEqual(loads_of(((TOP,), ())), [])
        self.assertEqual(guards_of(((TOP,), ())), ["main"])

    def test_over_the_nearest_first(self):
        for place, told in (("main", ["main"]), ("up", ["up", "main"]), ("attic", ["attic", "up", "main"]),
                            ("spare", ["spare"]), ("kitchen", ["kitchen", "down", "main"]),
                            ("lamp", ["attic", "up", "main"]), ("motor", ["kitchen", "down", "main"]),
                            ("bell", ["main"]), ("heater", ["spare"]), ("fan", ["up", "main"])):
            self.assertEqual(over(HOUSE, place), told)

    def test_over_the_last_of_eight(self):
        board = (chain(8), (("lamp", "h", (), 0, True),))
        self.assertEqual(over(board, "h"), list("hgfedcba"))
        self.assertEqual(over(board, "lamp"), list("hgfedcba"))
        self.assertEqual(over(board, "a"), ["a"])

    def test_kids_in_order(self):
        for guard, told in (("main", ["up", "down"]), ("up", ["attic", "empty"]), ("down", ["kitchen"]),
                            ("attic", []), ("spare", []), ("kitchen", []), ("empty", [])):
            self.assertEqual(kids(HOUSE, guard), told)

    def test_behind_in_order(self):
        for guard, told in (("main", ["lamp", "motor", "stove", "bell", "fan"]), ("up", ["lamp", "fan"]),
                            ("down", ["motor", "stove"]), ("attic", ["lamp"]), ("spare", ["heater"]),
                            ("kitchen", ["motor", "stove"]), ("empty", [])):
            self.assertEqual(behind(HOUSE, guard), told)

    def test_many_small_boards_by_the_words_of_the_point(self):
        rng = random.Random(2)
        for _ in range(200):
            board = plain.small_board(rng, 16, 24)
            for place in plain.places(board):
                self.assertEqual(over(board, place), plain.over(board, place))
            for guard in guards_of(board):
                self.assertEqual(kids(board, guard), [row[0] for row in board[0] if row[1] == guard])
                self.assertEqual(behind(board, guard),
                                 [row[0] for row in board[1] if guard in plain.over(board, row[0])])


class NoPlaces(unittest.TestCase):
    def test_what_is_no_place(self):
        for thing in ODD_THINGS + ("mai", "mains", "Main", " main"):
            for ask in (over, kids, behind):
                self.assertRaises(NoPlace, ask, HOUSE, thing)

    def test_a_load_is_no_guard(self):
        for load in loads_of(HOUSE):
            self.assertRaises(NoPlace, kids, HOUSE, load)
            self.assertRaises(NoPlace, behind, HOUSE, load)

    def test_of_another_board(self):
        self.assertRaises(NoPlace, over, ((TOP,), ()), "lamp")
        self.assertRaises(NoPlace, kids, ((TOP,), ()), "up")


class NewLists(unittest.TestCase):
    def test_a_told_list_is_the_askers_own(self):
        for ask in (lambda: guards_of(HOUSE), lambda: loads_of(HOUSE), lambda: over(HOUSE, "lamp"),
                    lambda: over(HOUSE, "attic"), lambda: kids(HOUSE, "main"), lambda: behind(HOUSE, "main"),
                    lambda: kids(HOUSE, "attic"), lambda: behind(HOUSE, "empty")):
            first = ask()
            self.assertIs(type(first), list)
            kept = list(first)
            first.append("x")
            first.reverse()
            self.assertEqual(ask(), kept)
            self.assertIsNot(ask(), ask())


if __name__ == "__main__":
    unittest.main()
