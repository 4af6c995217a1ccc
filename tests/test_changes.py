"""Point 29, of one change: what is a change of a board, and the board behind it."""

import random
import unittest

from fuseboard.boards import looked
from fuseboard.changes import changed, is_change
from tests import plain
from tests.plain import GREATEST, HOUSE, ODD_THINGS, TOO_GREAT, at_path, paths, put, small_board

CURVE = ((10, 4), (20, 2))
RIGHT = (
    ("on", "lamp"), ("off", "lamp"), ("on", "stove"), ("off", "stove"),
    ("move", "lamp", "main"), ("move", "lamp", "attic"), ("move", "fan", "spare"),
    ("load", "lamp", (), 0), ("load", "lamp", ((1, 0),), GREATEST), ("load", "motor", ((1, 2), (3, 4), (5, 6), (7, 8)), 9),
    ("guard", "main", CURVE, 0, 0), ("guard", "empty", ((1, 1),), GREATEST, GREATEST),
    ("guard", "up", ((1, 5), (2, 4), (3, 3), (4, 2), (5, 1)), 7, 8),
)


class IsChange(unittest.TestCase):
    def assert_none(self, thing):
        self.assertIs(is_change(HOUSE, thing), False, thing)

    def test_right_ones(self):
        for change in RIGHT:
            self.assertIs(is_change(HOUSE, change), True, change)

    def test_things_of_any_kind(self):
        for thing in ODD_THINGS + (list(RIGHT[0]), "on lamp", {"on": "lamp"}, (RIGHT[0],), ("on",), ("guard",), ("load",)):
            self.assert_none(thing)

    def test_other_words(self):
        for word in ODD_THINGS + ("On", "ON", "on ", "fault", "open", "close", "guards", "mov", "change", "row"):
            for change in RIGHT:
                self.assert_none((word,) + change[1:])

    def test_deeds_of_a_run(self):
        for deed in (("fault", "lamp", 3), ("fault", "main", 0), ("open", "main"), ("close", "main")):
            self.assert_none(deed)

    def test_another_word_with_the_parts_of_one(self):
        words = {change[0]: change for change in RIGHT}
        for word in words:
            for other in words:
                if {word, other} != {"on", "off"} and word != other:
                    self.assert_none((word,) + words[other][1:])

    def test_more_or_fewer_parts(self):
        for change in RIGHT:
            self.assert_none(change[:-1])
            self.assert_none(change + (0,))
            self.assert_none(change + (None,))
            self.assert_none(change + change)
            self.assert_none(change + change[1:2])
            self.assert_none(list(change))

    def test_names_that_are_not_there(self):
        for change in RIGHT:
            for thing in ODD_THINGS + ("lamps", "nobody", "Lamp", "lamp ", ("lamp",), ["lamp"]):
                self.assert_none(put(change, (1,), thing))
        for thing in ODD_THINGS + ("nobody", ("main",), ["main"]):
            self.assert_none(("move", "lamp", thing))

    def test_a_load_where_a_guard_is_asked_and_the_other_way_round(self):
        for word in ("on", "off"):
            self.assert_none((word, "main"))
        self.assert_none(("move", "up", "main"))
        self.assert_none(("move", "lamp", "fan"))
        self.assert_none(("move", "main", "lamp"))
        self.assert_none(("load", "main", (), 0))
        self.assert_none(("guard", "lamp", CURVE, 0, 0))

    def test_another_kind_in_each_place(self):
        for change in RIGHT:
            for path in paths(change):
                for thing in ODD_THINGS:
                    same = type(thing) is type(at_path(change, path)) and thing == at_path(change, path)
                    fits = isinstance(thing, int) and not isinstance(thing, bool) and 0 <= thing < TOO_GREAT
                    # An empty course, and numbers, may stand where others stood; curves and their steps are looked at below.
                    if not same and not (fits and len(path) == 1) and not (thing == () and change[0] == "load" and path == (2,)):
                        if len(path) < 3 or not fits:
                            self.assert_none(put(change, path, thing))

    def test_numbers(self):
        for number in (0, 1, GREATEST):
            self.assertIs(is_change(HOUSE, ("load", "lamp", (), number)), True)
            self.assertIs(is_change(HOUSE, ("guard", "main", CURVE, number, 0)), True)
            self.assertIs(is_change(HOUSE, ("guard", "main", CURVE, 0, number)), True)
        for number in (-1, TOO_GREAT, 10 ** 5000, True, False, None, "1", 1.0):
            self.assert_none(("load", "lamp", (), number))
            self.assert_none(("guard", "main", CURVE, number, 0))
            self.assert_none(("guard", "main", CURVE, 0, number))

    def test_curves_that_are_none(self):
        for curve in ((), ((0, 1),), ((1, 0),), ((10, 4), (20, 4)), ((10, 4), (10, 2)), ((20, 4), (10, 2)), [(10, 4)],
                      ([10, 4],), ((10, 4, 2),), ((True, 4),), ((10, True),), ((10, TOO_GREAT),), 10,
                      ((1, 6), (2, 5), (3, 4), (4, 3), (5, 2), (6, 1))):
            self.assert_none(("guard", "main", curve, 0, 0))

    def test_courses_that_are_none(self):
        for course in (((0, 1),), [], [(1, 1)], ([1, 1],), ((1,),), ((1, 1, 1),), ((True, 1),), ((1, False),), (1, 1), None,
                       ((1, -1),), ((TOO_GREAT, 1),), ((1, 1),) * 5):
            self.assert_none(("load", "lamp", course, 0))

    def test_a_board_without_loads(self):
        board = (HOUSE[0], ())
        self.assertIs(is_change(board, ("on", "lamp")), False)
        self.assertIs(is_change(board, ("guard", "main", CURVE, 0, 0)), True)


class Changed(unittest.TestCase):
    def test_right_ones(self):
        for change in RIGHT:
            behind = changed(HOUSE, change)
            self.assertEqual(behind, plain.changed(HOUSE, change))
            self.assertIs(looked(behind), True)

    def test_in_full(self):
        guards, loads = ((("top", None, ((9, 9),), 1, 2), ("low", "top", ((8, 8),), 3, 4)),
                         (("lamp", "top", (), 5, True), ("fan", "low", ((6, 7),), 8, False)))
        board = guards, loads
        self.assertEqual(changed(board, ("on", "fan")), (guards, (loads[0], ("fan", "low", ((6, 7),), 8, True))))
        self.assertEqual(changed(board, ("off", "lamp")), (guards, (("lamp", "top", (), 5, False), loads[1])))
        self.assertEqual(changed(board, ("move", "lamp", "low")), (guards, (("lamp", "low", (), 5, True), loads[1])))
        self.assertEqual(changed(board, ("load", "fan", ((1, 2),), 3)), (guards, (loads[0], ("fan", "low", ((1, 2),), 3, False))))
        self.assertEqual(changed(board, ("guard", "low", CURVE, 6, 7)), ((guards[0], ("low", "top", CURVE, 6, 7)), loads))
        self.assertEqual(changed(board, ("guard", "top", CURVE, 6, 7)), ((("top", None, CURVE, 6, 7), guards[1]), loads))

    def test_what_is_so_already(self):
        for change in (("on", "lamp"), ("off", "stove"), ("move", "lamp", "attic"), ("load", "lamp", (), 2),
                       ("guard",) + HOUSE[0][0][:1] + HOUSE[0][0][2:]):
            self.assertEqual(changed(HOUSE, change), HOUSE)

    def test_by_chance(self):
        rng = random.Random(110)
        for _ in range(300):
            board = small_board(rng)
            change = plain.some_change(rng, board)
            self.assertIs(is_change(board, change), True)
            self.assertEqual(changed(board, change), plain.changed(board, change))


if __name__ == "__main__":
    unittest.main()
