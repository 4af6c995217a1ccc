"""Point 6: counts of a curve, turns of some draw, full for some turns more, until when."""

import itertools
import unittest

from fuseboard.counts import Counts

THREE = ((10, 6), (20, 3), (40, 1))
FIVE = ((10, 500), (20, 100), (40, 50), (80, 5), (160, 1))
HUGE = 10 ** 100


def after(curve, *stretches):
    """Counts behind some stretches (draw, many)."""
    counts = Counts(curve)
    for draw, many in stretches:
        counts.turns(draw, many)
    return counts


def plain_turn(curve, told, draw):
    """A turn by the words of the point."""
    return [count + 1 if draw >= step[0] else 0 for step, count in zip(curve, told)]


def plain_full(curve, told, more):
    return any(count >= step[1] + more for step, count in zip(curve, told))


def plain_until(curve, told, draw, more, most):
    """Turn by turn, up to most turns."""
    for many in range(1, most + 1):
        told = plain_turn(curve, told, draw)
        if plain_full(curve, told, more):
            return many
    return None


class Turns(unittest.TestCase):
    def test_at_first_all_are_0(self):
        self.assertEqual(Counts(((1, 1),)).told(), [0])
        self.assertEqual(Counts(THREE).told(), [0, 0, 0])
        self.assertEqual(Counts(FIVE).told(), [0, 0, 0, 0, 0])

    def test_a_turn_counts_the_met_steps(self):
        for draw, told in ((0, [0, 0, 0]), (9, [0, 0, 0]), (10, [1, 0, 0]), (19, [1, 0, 0]), (20, [1, 1, 0]),
                           (39, [1, 1, 0]), (40, [1, 1, 1]), (41, [1, 1, 1]), (HUGE, [1, 1, 1])):
            self.assertEqual(after(THREE, (draw, 1)).told(), told)

    def test_fewer_met_steps_set_the_others_to_0(self):
        self.assertEqual(after(THREE, (40, 5), (20, 1)).told(), [6, 6, 0])
        self.assertEqual(after(THREE, (40, 5), (19, 1)).told(), [6, 0, 0])
        self.assertEqual(after(THREE, (40, 5), (9, 1)).told(), [0, 0, 0])
        self.assertEqual(after(THREE, (40, 5), (0, 1)).told(), [0, 0, 0])
        self.assertEqual(after(THREE, (40, 5), (0, 1), (20, 2)).told(), [2, 2, 0])
        self.assertEqual(after(THREE, (10, 2), (40, 3), (20, 4)).told(), [9, 7, 0])

    def test_counts_go_on_beyond_what_is_full(self):
        self.assertEqual(after(THREE, (40, 50), (40, 50)).told(), [100, 100, 100])

    def test_no_turns_change_nothing(self):
        for draw in (0, 9, 10, 20, 40, HUGE):
            counts = after(THREE, (40, 2), (20, 3))
            counts.turns(draw, 0)
            self.assertEqual(counts.told(), [5, 5, 0])
            fresh = Counts(THREE)
            fresh.turns(draw, 0)
            self.assertEqual(fresh.told(), [0, 0, 0])

    def test_one_by_one_and_many_at_once(self):
        for draws in itertools.product((0, 10, 25, 40), repeat=3):
            for manys in itertools.product((0, 1, 2, 5), repeat=3):
                at_once = Counts(THREE)
                one_by_one = Counts(THREE)
                plain = [0, 0, 0]
                for draw, many in zip(draws, manys):
                    at_once.turns(draw, many)
                    for _ in range(many):
                        one_by_one.turns(draw, 1)
                        plain = plain_turn(THREE, plain, draw)
                self.assertEqual(at_once.told(), plain)
                self.assertEqual(one_by_one.told(), plain)

    def test_numbers_of_turns_of_any_size(self):
        self.assertEqual(after(THREE, (20, HUGE), (10, 1)).told(), [HUGE + 1, 0, 0])
        self.assertEqual(after(THREE, (20, 10 ** 5000), (20, HUGE)).told(), [10 ** 5000 + HUGE] * 2 + [0])
        self.assertEqual(after(THREE, (40, HUGE), (0, HUGE)).told(), [0, 0, 0])

    def test_clear(self):
        counts = after(THREE, (40, 7))
        counts.clear()
        self.assertEqual(counts.told(), [0, 0, 0])
        self.assertIs(counts.full(0), False)
        counts.turns(20, 2)
        self.assertEqual(counts.told(), [2, 2, 0])
        fresh = Counts(THREE)
        fresh.clear()
        self.assertEqual(fresh.told(), [0, 0, 0])

    def test_turns_and_clear_tell_nothing(self):
        counts = Counts(THREE)
        self.assertIsNone(counts.turns(40, 1))
        self.assertIsNone(counts.turns(40, 0))
        self.assertIsNone(counts.turns(0, 1))
        self.assertIsNone(counts.clear())

    def test_two_of_one_curve_do_not_mix(self):
        one, two = Counts(THREE), Counts(THREE)
        one.turns(40, 3)
        self.assertEqual(two.told(), [0, 0, 0])
        two.turns(20, 1)
        self.assertEqual((one.told(), two.told()), ([3, 3, 3], [1, 1, 0]))
        two.clear()
        self.assertEqual((one.told(), two.told()), ([3, 3, 3], [0, 0, 0]))
        self.assertEqual((one.full(0), two.full(0)), (True, False))


class Told(unittest.TestCase):
    def test_a_list_of_whole_numbers(self):
        told = after(THREE, (20, 2)).told()
        self.assertIs(type(told), list)
        self.assertEqual([type(count) for count in told], [int, int, int])

    def test_a_new_list_each_time(self):
        counts = after(THREE, (20, 2))
        self.assertIsNot(counts.told(), counts.told())

    def test_what_is_done_to_it_changes_nothing(self):
        for spoil in (lambda xs: xs.append(9), lambda xs: xs.clear(), lambda xs: xs.__setitem__(0, 99)):
            counts = Counts(THREE)
            spoil(counts.told())
            self.assertEqual(counts.told(), [0, 0, 0])
            counts.turns(20, 2)
            spoil(counts.told())
            self.assertEqual(counts.told(), [2, 2, 0])
            self.assertIs(counts.full(0), False)
            self.assertEqual(counts.until(20, 0), 1)
            counts.clear()
            spoil(counts.told())
            self.assertEqual(counts.told(), [0, 0, 0])

    def test_nothing_done_later_changes_it(self):
        counts = Counts(THREE)
        first = counts.told()
        counts.turns(40, 2)
        second = counts.told()
        counts.clear()
        third = counts.told()
        counts.turns(10, 1)
        self.assertEqual((first, second, third), ([0, 0, 0], [2, 2, 2], [0, 0, 0]))


class Full(unittest.TestCase):
    def test_for_no_turns_more(self):
        self.assertIs(Counts(THREE).full(0), False)
        self.assertIs(after(THREE, (20, 2)).full(0), False)
        self.assertIs(after(THREE, (20, 3)).full(0), True)
        self.assertIs(after(THREE, (20, 4)).full(0), True)
        self.assertIs(after(THREE, (40, 1)).full(0), True)
        self.assertIs(after(THREE, (10, 5)).full(0), False)
        self.assertIs(after(THREE, (10, 6)).full(0), True)

    def test_for_some_turns_more(self):
        counts = after(THREE, (20, 5))
        self.assertEqual([counts.full(more) for more in range(5)], [True, True, True, False, False])
        self.assertIs(after(THREE, (10, HUGE)).full(HUGE - 6), True)
        self.assertIs(after(THREE, (10, HUGE)).full(HUGE - 5), False)
        self.assertIs(after(THREE, (40, 10 ** 50)).full(10 ** 60), False)

    def test_one_full_step_will_do_whichever_it_is(self):
        self.assertIs(after(THREE, (10, 5), (20, 1)).full(0), True)
        self.assertIs(after(THREE, (10, 1), (20, 3)).full(0), True)
        self.assertIs(after(THREE, (20, 1), (40, 1)).full(0), True)

    def test_the_full_steps(self):
        self.assertEqual(Counts(THREE).full_steps(0), [])
        self.assertEqual(after(THREE, (20, 2)).full_steps(0), [])
        self.assertEqual(after(THREE, (20, 3)).full_steps(0), [1])
        self.assertEqual(after(THREE, (20, 3)).full_steps(1), [])
        self.assertEqual(after(THREE, (40, 1)).full_steps(0), [2])
        self.assertEqual(after(THREE, (40, 6)).full_steps(0), [0, 1, 2])
        self.assertEqual(after(THREE, (40, 6)).full_steps(3), [1, 2])
        self.assertEqual(after(THREE, (40, 6)).full_steps(5), [2])

    def test_no_longer_full(self):
        counts = after(THREE, (40, 4))
        self.assertIs(counts.full(0), True)
        counts.turns(10, 1)
        self.assertIs(counts.full(0), False)
        counts.turns(10, 1)
        self.assertIs(counts.full(0), True)
        counts.turns(0, 1)
        self.assertIs(counts.full(0), False)


class Until(unittest.TestCase):
    def test_from_nought(self):
        counts = Counts(THREE)
        for draw, until in ((0, None), (9, None), (10, 6), (19, 6), (20, 3), (39, 3), (40, 1), (HUGE, 1)):
            self.assertEqual(counts.until(draw, 0), until)

    def test_with_turns_more(self):
        counts = Counts(THREE)
        self.assertEqual([counts.until(20, more) for more in (0, 1, 7, HUGE)], [3, 4, 10, HUGE + 3])
        self.assertEqual([counts.until(9, more) for more in (0, 1, 7, HUGE)], [None] * 4)

    def test_counts_so_far_are_counted(self):
        self.assertEqual(after(THREE, (20, 2)).until(20, 0), 1)
        self.assertEqual(after(THREE, (20, 2)).until(10, 0), 4)
        self.assertEqual(after(THREE, (10, 5)).until(20, 0), 1)
        self.assertEqual(after(THREE, (10, 4)).until(20, 0), 2)

    def test_1_at_least_where_full_now(self):
        for many in (3, 4, 100, HUGE):
            counts = after(THREE, (20, many))
            self.assertIs(counts.full(0), True)
            self.assertEqual(counts.until(20, 0), 1)
        self.assertEqual(after(THREE, (20, 10)).until(20, 2), 1)

    def test_full_now_by_a_step_that_is_not_met_then(self):
        counts = after(THREE, (40, 1))
        self.assertIs(counts.full(0), True)
        self.assertEqual(counts.until(20, 0), 2)
        self.assertEqual(counts.until(10, 0), 5)
        self.assertIsNone(counts.until(9, 0))
        self.assertIsNone(after(THREE, (40, HUGE)).until(0, 0))

    def test_kinds_of_answers(self):
        counts = after(THREE, (40, 5))
        self.assertIs(type(counts.until(40, 0)), int)
        self.assertIs(type(counts.until(10, 50)), int)
        self.assertIs(counts.until(0, 0), None)

    def test_great_numbers(self):
        curve = ((5, 10 ** 60 - 1), (10 ** 60 - 1, 10 ** 59))
        self.assertEqual(Counts(curve).until(5, HUGE), HUGE + 10 ** 60 - 1)
        self.assertEqual(Counts(curve).until(10 ** 60, HUGE), HUGE + 10 ** 59)
        self.assertEqual(after(curve, (6, 10 ** 59)).until(10 ** 60, 0), 10 ** 59)

    def test_agrees_with_going_turn_by_turn(self):
        curves = (((1, 1),), ((2, 4),), ((1, 5), (2, 2)), ((1, 6), (2, 3), (3, 1)))
        for curve in curves:
            for stretches in itertools.product(itertools.product((0, 1, 2, 3), (1, 2, 4)), repeat=2):
                counts = after(curve, *stretches)
                for draw, more in itertools.product(range(5), range(4)):
                    until = plain_until(curve, counts.told(), draw, more, 20)
                    self.assertEqual(counts.until(draw, more), until)

    def test_the_answer_is_the_first_such_turn(self):
        for draw, more in itertools.product((10, 25, 50, 100, 200), (0, 3, 40)):
            counts = after(FIVE, (45, 20), (30, 7))
            until = counts.until(draw, more)
            counts.turns(draw, until - 1)
            if until > 1:
                self.assertIs(counts.full(more), False)
            counts.turns(draw, 1)
            self.assertIs(counts.full(more), True)


class Asking(unittest.TestCase):
    def test_full_and_until_change_nothing(self):
        counts = after(THREE, (40, 2), (20, 1))
        for more in (0, 1, 5, HUGE):
            for draw in (0, 10, 20, 40, HUGE):
                counts.full(more)
                counts.until(draw, more)
                self.assertEqual(counts.told(), [3, 3, 0])

    def test_asked_again_the_same(self):
        counts = after(THREE, (20, 1))
        self.assertEqual([counts.until(20, 0) for _ in range(3)], [2, 2, 2])
        self.assertEqual([counts.full(0) for _ in range(3)], [False] * 3)


if __name__ == "__main__":
    unittest.main()
