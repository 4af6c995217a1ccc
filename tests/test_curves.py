"""Points 4 and 5: what a curve is, its least, what a draw meets, its turns at a draw."""

import itertools
import unittest

from fuseboard.curves import is_curve, least_of, met, turns_at

GREATEST = 10 ** 60 - 1
TOO_GREAT = 10 ** 60

FIVE = ((10, 500), (20, 100), (40, 50), (80, 5), (160, 1))
ODD_THINGS = (
    None, True, False, 0, 1, -1, GREATEST, TOO_GREAT, 10 ** 5000, 1.0, 2.5, float("nan"), 1j,
    "", "a", "10:5", "((1, 1),)", b"", b"\x01\x01", (), [], {}, set(), frozenset(), range(2),
    [(1, 1)], {(1, 1): 1}, {(1, 1)}, {1: 1}, iter([(1, 1)]), object(), len, int, ValueError("x"),
)


class CurveCase(unittest.TestCase):
    def assert_curve(self, thing):
        self.assertIs(is_curve(thing), True, repr(thing)[:200])

    def assert_none(self, thing):
        self.assertIs(is_curve(thing), False)


class CurvesThatAre(CurveCase):
    def test_one_to_five_steps(self):
        for many in range(1, 6):
            self.assert_curve(FIVE[:many])
            self.assert_curve(FIVE[5 - many:])

    def test_the_least_numbers(self):
        self.assert_curve(((1, 1),))
        self.assert_curve(((1, 2), (2, 1)))
        self.assert_curve(((1, 5), (2, 4), (3, 3), (4, 2), (5, 1)))

    def test_numbers_of_sixty_figures(self):
        self.assert_curve(((GREATEST, GREATEST),))
        self.assert_curve(((1, GREATEST), (GREATEST, 1)))
        self.assert_curve(((GREATEST - 1, GREATEST), (GREATEST, GREATEST - 1)))
        self.assert_curve(((10 ** 59, 10 ** 59),))

    def test_a_step_may_have_as_many_turns_as_its_draw(self):
        self.assert_curve(((3, 4), (4, 3)))
        self.assert_curve(((7, 7),))

    def test_all_pairs_of_small_steps(self):
        for first in itertools.product(range(4), repeat=2):
            for second in itertools.product(range(4), repeat=2):
                right = min(first + second) > 0 and first[0] < second[0] and first[1] > second[1]
                self.assertIs(is_curve((first, second)), right, (first, second))


class CurvesThatAreNot(CurveCase):
    def test_things_of_other_kinds(self):
        for thing in ODD_THINGS:
            self.assert_none(thing)

    def test_no_steps_and_six_steps(self):
        self.assert_none(())
        self.assert_none(((5, 600),) + FIVE)
        self.assert_none(((1, 6), (2, 5), (3, 4), (4, 3), (5, 2), (6, 1)))
        self.assert_none(tuple((draw, 1000 - draw) for draw in range(1, 900)))

    def test_numbers_that_are_none_in_any_step(self):
        wrong = (0, -1, -10 ** 70, TOO_GREAT, TOO_GREAT + 1, 10 ** 5000, True, False, None, "1", b"1", 1.0,
                 (1,), [1], {}, set(), float("nan"), float("inf"))
        for many in range(1, 6):
            for at in range(many):
                for part in range(2):
                    for thing in wrong:
                        steps = [list(step) for step in FIVE[:many]]
                        steps[at][part] = thing
                        self.assert_none(tuple(tuple(step) for step in steps))

    def test_sixty_one_figures_where_the_order_is_right(self):
        self.assert_none(((1, TOO_GREAT), (2, 1)))
        self.assert_none(((1, 2), (TOO_GREAT, 1)))
        self.assert_none(((TOO_GREAT, 1),))
        self.assert_none(((1, TOO_GREAT),))

    def test_true_is_no_1(self):
        self.assert_none(((True, 1),))
        self.assert_none(((1, True),))
        self.assert_none(((True, 2), (2, True)))
        self.assert_none(((1, 2), (2, True)))

    def test_nought_where_the_order_is_right(self):
        self.assert_none(((0, 1),))
        self.assert_none(((1, 0),))
        self.assert_none(((0, 2), (1, 1)))
        self.assert_none(((1, 1), (2, 0)))

    def test_a_draw_as_in_the_step_ahead_or_below_it(self):
        for at in range(1, 5):
            for less in (0, 1):
                steps = list(FIVE)
                steps[at] = (steps[at - 1][0] - less, steps[at][1])
                self.assert_none(tuple(steps))

    def test_turns_as_in_the_step_ahead_or_above_them(self):
        for at in range(1, 5):
            for more in (0, 1):
                steps = list(FIVE)
                steps[at] = (steps[at][0], steps[at - 1][1] + more)
                self.assert_none(tuple(steps))

    def test_the_steps_backwards(self):
        self.assert_none(FIVE[::-1])
        self.assert_none(((20, 3), (10, 6)))

    def test_lists_instead_of_tuples(self):
        self.assert_none(list(FIVE))
        self.assert_none([list(step) for step in FIVE])
        for at in range(5):
            self.assert_none(FIVE[:at] + (list(FIVE[at]),) + FIVE[at + 1:])

    def test_steps_of_another_length(self):
        for step in ((), (1,), (1, 1, 1), (5, 4, 3, 2)):
            self.assert_none((step,))
            self.assert_none((step, (1000, 1)))
            self.assert_none(((1, 1000), step))
        self.assert_none((1, 1))
        self.assert_none((((1, 1),),))

    def test_steps_of_other_kinds(self):
        for thing in ODD_THINGS:
            self.assert_none((thing,))
            self.assert_none(((1, 1000), thing))
            self.assert_none((thing, (1000, 1)))
        self.assert_none(("ab",))
        self.assert_none(({1: 1, 2: 2},))

    def test_what_is_handed_in_is_not_changed(self):
        for thing in ([(1, 2), (2, 1)], [], {(1, 1): [1]}, [[1, 1]]):
            ahead = repr(thing)
            self.assert_none(thing)
            self.assertEqual(repr(thing), ahead)
        inner = [1, 1]
        self.assert_none((inner,))
        self.assertEqual(inner, [1, 1])


class AtDraws(unittest.TestCase):
    def test_least_of(self):
        self.assertEqual(least_of(FIVE), 10)
        self.assertEqual(least_of(((1, 1),)), 1)
        self.assertEqual(least_of(((GREATEST - 1, 2), (GREATEST, 1))), GREATEST - 1)

    def test_around_each_step(self):
        for at, (draw, turns) in enumerate(FIVE):
            ahead = FIVE[at - 1][1] if at else None
            self.assertEqual((met(FIVE, draw - 1), turns_at(FIVE, draw - 1)), (at, ahead))
            self.assertEqual((met(FIVE, draw), turns_at(FIVE, draw)), (at + 1, turns))
            self.assertEqual((met(FIVE, draw + 1), turns_at(FIVE, draw + 1)), (at + 1, turns))

    def test_below_the_first_step(self):
        for draw in (0, 1, 9):
            self.assertEqual(met(FIVE, draw), 0)
            self.assertIsNone(turns_at(FIVE, draw))

    def test_beyond_the_last_step(self):
        for draw in (161, 10 ** 9, GREATEST, TOO_GREAT, 10 ** 100, 10 ** 5000):
            self.assertEqual((met(FIVE, draw), turns_at(FIVE, draw)), (5, 1))

    def test_a_least_of_1(self):
        self.assertEqual((met(((1, 1),), 0), turns_at(((1, 1),), 0)), (0, None))
        self.assertEqual((met(((1, 1),), 1), turns_at(((1, 1),), 1)), (1, 1))

    def test_great_steps(self):
        curve = ((GREATEST - 1, GREATEST), (GREATEST, 7))
        self.assertEqual([met(curve, GREATEST + more) for more in (-2, -1, 0, 1)], [0, 1, 2, 2])
        self.assertEqual([turns_at(curve, GREATEST + more) for more in (-2, -1, 0, 1)], [None, GREATEST, 7, 7])

    def test_kinds_of_answers(self):
        for draw in (0, 9, 10, 200, TOO_GREAT):
            self.assertIs(type(met(FIVE, draw)), int)
        self.assertIs(type(turns_at(FIVE, 10)), int)
        self.assertIs(type(least_of(FIVE)), int)

    def test_each_draw_of_small_curves_by_the_words_of_the_point(self):
        for curve in (((2, 3),), ((1, 4), (3, 2)), ((1, 9), (2, 8), (5, 1)), FIVE):
            for draw in range(170):
                steps = [step for step in curve if draw >= step[0]]
                self.assertEqual(met(curve, draw), len(steps))
                self.assertEqual(turns_at(curve, draw), steps[-1][1] if steps else None)


if __name__ == "__main__":
    unittest.main()
