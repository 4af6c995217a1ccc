"""Points 14 to 17: courses of loads, counts and openings, great numbers of turns, sums and darkness."""

import random
import unittest

from fuseboard.errors import NoPlace
from fuseboard.runs import Run
from tests import plain
from tests.plain import GREATEST, HOUSE, ODD_THINGS, PlainRun, small_board, some_deed, some_stuck

FAR = ((10 ** 9, 10 ** 9),)
# One load with a course of two stretches of 3 and 2 turns, behind two guards that never open by themselves.
MOTOR = ((("top", None, FAR, 0, 0), ("mid", "top", FAR, 0, 0)), (("motor", "mid", ((3, 30), (2, 20)), 4, False),))


def motor(switch):
    """The same with the motor on or off at the beginning."""
    guards, loads = MOTOR
    return guards, ((*loads[0][:4], switch),)


def told_draws(run, many, guard="top"):
    """The draws of a guard in so many turns from now on."""
    found = []
    for _ in range(many):
        found.append(run.draws()[guard])
        run.go(run.turn() + 1)
    return found


def done(run, *deeds):
    for deed in deeds:
        run.do(deed)
    return run


class Courses(unittest.TestCase):
    def test_at_their_last_from_the_beginning(self):
        self.assertEqual(told_draws(Run(motor(True)), 8), [4] * 8)
        self.assertEqual(told_draws(Run(motor(False)), 3), [0] * 3)

    def test_switched_on(self):
        self.assertEqual(told_draws(done(Run(MOTOR), ("on", "motor")), 7), [30, 30, 30, 20, 20, 4, 4])
        run = Run(MOTOR)
        run.go(10)
        self.assertEqual(told_draws(done(run, ("on", "motor")), 7), [30, 30, 30, 20, 20, 4, 4])

    def test_no_course(self):
        run = Run(((("top", None, FAR, 0, 0),), (("lamp", "top", (), 4, False),)))
        self.assertEqual(told_draws(done(run, ("on", "lamp")), 3), [4, 4, 4])

    def test_switched_off_and_on_again(self):
        run = done(Run(MOTOR), ("on", "motor"))
        self.assertEqual(told_draws(run, 4), [30, 30, 30, 20])
        run.do(("off", "motor"))
        self.assertEqual(told_draws(run, 2), [0, 0])
        run.do(("on", "motor"))
        self.assertEqual(told_draws(run, 7), [30, 30, 30, 20, 20, 4, 4])

    def test_only_between_two_deeds_of_one_turn(self):
        for deeds in ((("off", "motor"), ("on", "motor")), (("open", "mid"), ("close", "mid")),
                      (("open", "top"), ("close", "top")), (("off", "motor"), ("open", "top"), ("on", "motor"),
                                                            ("close", "top"))):
            run = done(Run(motor(True)), *deeds)
            self.assertEqual(told_draws(run, 4), [30, 30, 30, 20])
            done(run, *deeds)
            self.assertEqual(told_draws(run, 7), [30, 30, 30, 20, 20, 4, 4])

    def test_not_where_it_is_on_and_fed_throughout(self):
        run = done(Run(MOTOR), ("on", "motor"))
        self.assertEqual(told_draws(run, 2), [30, 30])
        done(run, ("on", "motor"), ("close", "mid"), ("close", "top"), ("fault", "motor", 1), ("fault", "motor", 0))
        self.assertEqual(told_draws(run, 5), [30, 20, 20, 4, 4])

    def test_a_guard_closed(self):
        for guard in ("mid", "top"):
            run = done(Run(motor(True)), ("open", guard))
            self.assertEqual(told_draws(run, 3), [0, 0, 0])
            self.assertEqual(told_draws(done(run, ("close", guard)), 6), [30, 30, 30, 20, 20, 4])

    def test_fed_only_by_the_last_of_several_guards(self):
        run = done(Run(motor(True)), ("open", "mid"), ("open", "top"))
        run.go(2)
        run.do(("close", "mid"))
        run.go(4)
        self.assertEqual(run.dark(), ["motor"])
        self.assertEqual(told_draws(done(run, ("close", "top")), 6), [30, 30, 30, 20, 20, 4])

    def test_switched_on_while_not_fed(self):
        run = done(Run(MOTOR), ("open", "mid"), ("on", "motor"))
        self.assertEqual(told_draws(run, 2), [0, 0])
        self.assertEqual(told_draws(done(run, ("close", "mid")), 6), [30, 30, 30, 20, 20, 4])

    def test_fed_while_it_is_off(self):
        run = done(Run(motor(True)), ("off", "motor"), ("open", "mid"), ("close", "mid"))
        self.assertEqual(told_draws(run, 2), [0, 0])
        self.assertEqual(told_draws(done(run, ("on", "motor")), 6), [30, 30, 30, 20, 20, 4])

    def test_between_the_end_of_a_turn_and_a_deed(self):
        guards = (("top", None, FAR, 0, 0), ("mid", "top", ((50, 2),), 0, 0))
        run = Run((guards, (("motor", "mid", ((3, 30), (2, 20)), 4, True),)))
        run.do(("fault", "mid", 60))
        self.assertEqual(told_draws(run, 2), [64, 64])
        self.assertEqual(run.openings(), [(1, ("mid",))])
        done(run, ("fault", "mid", 0), ("close", "mid"))
        self.assertEqual(told_draws(run, 6), [30, 30, 30, 20, 20, 4])
        self.assertEqual(run.darkness("motor"), [])

    def test_stretches_of_no_draw_and_of_the_same_draw(self):
        run = Run(((("top", None, FAR, 0, 0),), (("fan", "top", ((1, 0), (2, 5), (1, 5), (1, 0)), 3, False),)))
        self.assertEqual(told_draws(done(run, ("on", "fan")), 7), [0, 5, 5, 5, 0, 3, 3])

    def test_asked_or_gone_in_other_pieces(self):
        for pieces in ((1,) * 7, (7,), (3, 4), (2, 2, 3), (4, 3), (5, 2)):
            run = done(Run(MOTOR), ("on", "motor"))
            for many in pieces:
                run.go(run.turn() + many)
            self.assertEqual((run.through("top"), run.drawn("motor"), run.draws()["top"]), (138, 138, 4))


class Faults(unittest.TestCase):
    def test_at_a_load_that_is_on(self):
        run = done(Run(MOTOR), ("on", "motor"), ("fault", "motor", 100))
        self.assertEqual(told_draws(run, 6), [130, 130, 130, 120, 120, 104])

    def test_at_a_load_that_is_off_or_not_fed(self):
        run = done(Run(MOTOR), ("fault", "motor", 100))
        self.assertEqual(told_draws(run, 2), [0, 0])
        done(run, ("on", "motor"))
        self.assertEqual(told_draws(run, 2), [130, 130])
        done(run, ("off", "motor"))
        self.assertEqual(told_draws(run, 2), [0, 0])
        done(run, ("on", "motor"), ("open", "mid"))
        self.assertEqual(told_draws(run, 2), [0, 0])
        self.assertEqual(run.drawn("motor"), 260)

    def test_at_guards(self):
        run = done(Run(motor(True)), ("fault", "mid", 7), ("fault", "top", 50))
        self.assertEqual((run.draws()["top"], run.draws()["mid"]), (61, 11))
        done(run, ("open", "mid"))
        self.assertEqual((run.draws()["top"], run.draws()["mid"]), (50, 0))
        done(run, ("open", "top"))
        self.assertEqual((run.draws()["top"], run.draws()["mid"]), (0, 0))
        done(run, ("close", "mid"), ("close", "top"))
        self.assertEqual((run.draws()["top"], run.draws()["mid"]), (87, 37))


def pair(lower=((10, 4), (20, 2)), upper=((10, 4), (20, 2)), delay=0, wait=0, low_delay=0):
    """A top and a guard under it, without loads."""
    return (("top", None, upper, delay, wait), ("low", "top", lower, low_delay, 0)), ()


class Openings(unittest.TestCase):
    def opened(self, board, *deeds, upto=100, stuck=None):
        run = done(Run(board, stuck), *deeds)
        run.go(upto)
        return run.openings()

    def test_in_just_the_told_turn(self):
        alone = ((("top", None, ((10, 4), (20, 2), (40, 1)), 0, 0),), ())
        for greatness, turn in ((10, 3), (19, 3), (20, 1), (39, 1), (40, 0), (GREATEST, 0)):
            for upto in range(turn + 1):
                self.assertEqual(self.opened(alone, ("fault", "top", greatness), upto=upto), [])
            for upto in (turn + 1, turn + 2, 50):
                self.assertEqual(self.opened(alone, ("fault", "top", greatness), upto=upto), [(turn, ("top",))])
        self.assertEqual(self.opened(alone, ("fault", "top", 9)), [])
        self.assertEqual(self.opened(alone), [])

    def test_delay(self):
        for delay in (0, 1, 5, 60):
            alone = ((("top", None, ((10, 4), (20, 2)), delay, 1000),), ())
            self.assertEqual(self.opened(alone, ("fault", "top", 10)), [(3 + delay, ("top",))])
            self.assertEqual(self.opened(alone, ("fault", "top", 20)), [(1 + delay, ("top",))])

    def test_several_together_in_order(self):
        self.assertEqual(self.opened(pair(), ("fault", "low", 10)), [(3, ("top", "low"))])
        three = (pair()[0] + (("other", None, ((5, 4),), 0, 0),), ())
        self.assertEqual(self.opened(three, ("fault", "other", 5), ("fault", "low", 10)), [(3, ("top", "low", "other"))])

    def test_the_lower_ahead_of_the_upper(self):
        self.assertEqual(self.opened(pair(delay=1), ("fault", "low", 10)), [(3, ("low",))])
        self.assertEqual(self.opened(pair(delay=1), ("fault", "low", 10), ("fault", "top", 10)),
                         [(2, ("top",))])
        self.assertEqual(self.opened(pair(delay=2), ("fault", "low", 10), ("fault", "top", 10)),
                         [(3, ("top", "low"))])
        self.assertEqual(self.opened(pair(delay=3), ("fault", "low", 10), ("fault", "top", 10)),
                         [(3, ("low",)), (6, ("top",))])

    def test_the_upper_ahead_of_the_lower(self):
        run = done(Run(pair(lower=((10, 9),))), ("fault", "low", 10))
        run.go(100)
        self.assertEqual(run.openings(), [(3, ("top",))])
        self.assertEqual(run.closed(), ["low"])

    def test_wait_while_it_is_held(self):
        self.assertEqual(self.opened(pair(wait=3, low_delay=20), ("fault", "low", 10)), [(6, ("top",))])
        self.assertEqual(self.opened(pair(wait=3, delay=2, low_delay=20), ("fault", "low", 10)), [(8, ("top",))])
        self.assertEqual(self.opened(pair(wait=3, delay=2), ("fault", "top", 10)), [(5, ("top",))])
        self.assertEqual(self.opened(pair(wait=3), ("fault", "low", 9), ("fault", "top", 1)), [(3, ("top",))])

    def test_held_by_its_kids_only(self):
        three = (pair(wait=50, lower=((100, 1),))[0] + (("leaf", "low", ((1, 90),), 0, 0),), ())
        self.assertEqual(self.opened(three, ("fault", "leaf", 10)), [(3, ("top",))])

    def test_no_longer_held_opens_when_the_next_turn_is_over(self):
        run = done(Run(pair(wait=50, low_delay=90)), ("fault", "low", 10), ("fault", "top", 10))
        run.go(20)
        self.assertEqual(run.openings(), [])
        run.do(("fault", "low", 9))
        run.go(21)
        self.assertEqual(run.openings(), [(20, ("top",))])

    def test_held_for_the_first_time_in_the_last_turn(self):
        for wait, turn in ((0, 3), (1, 4), (2, 5), (5, 8)):
            run = done(Run(pair(wait=wait, low_delay=90)), ("fault", "top", 10))
            run.go(3)
            run.do(("fault", "low", 10))
            run.go(50)
            self.assertEqual(run.openings(), [(turn, ("top",))])

    def test_an_open_kid_holds_no_more(self):
        run = done(Run(pair(wait=90)), ("fault", "low", 10), ("fault", "top", 10))
        run.go(100)
        self.assertEqual(run.openings(), [(3, ("low",)), (4, ("top",))])

    def test_stuck_ones_never_by_themselves(self):
        for stuck in (["low"], ("low",), ["low", "low"]):
            self.assertEqual(self.opened(pair(delay=1), ("fault", "low", 10), stuck=stuck), [(4, ("top",))])
        self.assertEqual(self.opened(pair(), ("fault", "low", 10), stuck=["top", "low"]), [])
        self.assertEqual(self.opened(pair(), ("fault", "low", 10), stuck=["top"]), [(3, ("low",))])
        for stuck in (None, [], ()):
            self.assertEqual(self.opened(pair(), ("fault", "low", 10), stuck=stuck), [(3, ("top", "low"))])

    def test_a_stuck_one_holds_and_counts(self):
        self.assertEqual(self.opened(pair(wait=30), ("fault", "low", 10), stuck=["low"]), [(33, ("top",))])

    def test_stuck_changed_behind_the_call(self):
        stuck = ["low"]
        run = done(Run(pair(delay=1), stuck), ("fault", "low", 10))
        stuck.clear()
        stuck.append("top")
        run.go(100)
        self.assertEqual(run.openings(), [(4, ("top",))])
        self.assertEqual(stuck, ["top"])

    def test_closed_again_it_opens_again(self):
        run = done(Run(pair(delay=9)), ("fault", "low", 10))
        run.go(10)
        run.do(("close", "low"))
        run.go(20)
        run.do(("close", "low"))
        run.go(21)
        run.do(("close", "low"))
        run.go(22)
        self.assertEqual(run.openings(), [(3, ("low",)), (13, ("low",))])

    def test_counts_are_0_behind_opening_and_closing_by_deeds(self):
        for guard in ("low", "top"):
            run = done(Run(pair(delay=9)), ("fault", "low", 10))
            run.go(3)
            done(run, ("open", guard), ("close", guard))
            run.go(6)
            self.assertEqual(run.openings(), [])
            run.go(7)
            self.assertEqual(run.openings(), [(6, ("low",))])

    def test_only_the_counts_of_those_that_were_open_or_not_fed(self):
        run = done(Run(pair(delay=0, lower=((10, 9),))), ("fault", "low", 10))
        run.go(3)
        done(run, ("open", "low"), ("close", "low"))
        run.go(4)
        self.assertEqual(run.openings(), [(3, ("top",))])

    def test_a_turn_below_the_step_begins_the_count_anew(self):
        run = done(Run(pair(delay=9)), ("fault", "low", 10))
        run.go(3)
        run.do(("fault", "low", 9))
        run.go(4)
        run.do(("fault", "low", 10))
        run.go(50)
        self.assertEqual(run.openings(), [(7, ("low",))])
        run = done(Run(pair(delay=9)), ("fault", "low", 10))
        run.go(3)
        done(run, ("fault", "low", 0), ("fault", "low", 10))
        run.go(50)
        self.assertEqual(run.openings(), [(3, ("low",))])

    def test_opened_by_a_deed_it_is_no_opening(self):
        run = done(Run(pair()), ("fault", "low", 10))
        run.go(3)
        done(run, ("open", "low"))
        run.go(50)
        self.assertEqual((run.openings(), run.closed()), ([], ["top"]))


class ByChance(unittest.TestCase):
    def assert_same(self, run, slow):
        board = slow.board
        self.assertEqual(run.turn(), slow.now)
        self.assertEqual(run.openings(), slow.openings)
        self.assertEqual(run.closed(), slow.closed())
        self.assertEqual(run.dark(), slow.dark())
        self.assertEqual(run.draws(), slow.draws())
        for guard in board[0]:
            self.assertEqual(run.through(guard[0]), slow.through(guard[0]))
        for place in plain.places(board):
            self.assertEqual(run.drawn(place), slow.drawn(place))
        for load in board[1]:
            self.assertEqual(run.darkness(load[0]), slow.darkness(load[0]))
        tops = [guard[0] for guard in board[0] if guard[1] is None]
        self.assertEqual(sum(run.through(top) for top in tops), sum(run.drawn(place) for place in plain.places(board)))

    def test_against_a_run_gone_turn_by_turn(self):
        rng = random.Random(11)
        for _ in range(400):
            board = small_board(rng)
            stuck = some_stuck(rng, board)
            run, slow = Run(board, stuck), PlainRun(board, stuck or ())
            for _ in range(rng.randint(1, 8)):
                for _ in range(rng.choice((0, 1, 1, 2, 4))):
                    deed = some_deed(rng, board)
                    run.do(deed)
                    slow.do(deed)
                    self.assertEqual((run.draws(), run.dark(), run.closed()), (slow.draws(), slow.dark(), slow.closed()))
                turn = run.turn() + rng.choice((0, 1, 1, 2, 3, 8, 15))
                run.go(turn)
                slow.go(turn)
                self.assert_same(run, slow)

    def test_in_one_go_or_in_many_pieces(self):
        rng = random.Random(12)
        for _ in range(150):
            board = small_board(rng)
            stuck = some_stuck(rng, board)
            runs = [Run(board, stuck) for _ in range(3)]
            for _ in range(rng.randint(1, 6)):
                deed = some_deed(rng, board)
                turn = runs[0].turn() + rng.randint(0, 12)
                for run, piece in zip(runs, (1000, 1, 3)):
                    run.do(deed)
                    while run.turn() < turn:
                        run.go(min(turn, run.turn() + piece))
                told = [(run.openings(), run.closed(), run.dark(), run.draws(),
                         [run.drawn(place) for place in plain.places(board)],
                         [run.darkness(load[0]) for load in board[1]]) for run in runs]
                self.assertEqual(told[0], told[1])
                self.assertEqual(told[0], told[2])


class GreatNumbers(unittest.TestCase):
    def test_turns_of_sixty_figures(self):
        run = Run(HOUSE)
        run.go(GREATEST)
        self.assertEqual((run.openings(), run.through("main")), ([], 10 * GREATEST))
        run.do(("fault", "attic", 8))
        run.go(GREATEST + 100)
        self.assertEqual(run.openings(), [(GREATEST + 7, ("attic",))])

    def test_curves_delays_waits_and_courses_of_sixty_figures(self):
        board = ((("top", None, ((GREATEST - 1, GREATEST), (GREATEST, GREATEST - 1)), GREATEST, GREATEST),
                  ("low", "top", ((7, GREATEST),), GREATEST, 0)),
                 (("motor", "low", ((GREATEST, 6), (10 ** 59, 7)), 8, False),))
        run = done(Run(board), ("on", "motor"))
        run.go(GREATEST)
        self.assertEqual((run.draws()["low"], run.through("top")), (7, 6 * GREATEST))
        run.go(10 ** 70)
        self.assertEqual(run.openings(), [(GREATEST + 2 * GREATEST - 1, ("low",))])
        self.assertEqual(run.through("top"), 6 * GREATEST + 7 * 10 ** 59 + 8 * (2 * GREATEST - 10 ** 59))
        self.assertEqual(run.darkness("motor"), [(3 * GREATEST, 10 ** 70 - 1)])
        run = done(Run(board, ["low"]), ("fault", "low", GREATEST))
        run.go(10 ** 70)
        self.assertEqual(run.openings(), [(3 * GREATEST - 2, ("top",))])
        self.assertEqual(run.drawn("low"), GREATEST * (3 * GREATEST - 1))

    def test_delays_of_any_size(self):
        board = ((("top", None, ((1, 1),), 10 ** 80, 0),), ())
        run = done(Run(board), ("fault", "top", 1))
        run.go(10 ** 90)
        self.assertEqual(run.openings(), [(10 ** 80, ("top",))])

    def test_a_great_board_with_many_stretches(self):
        letters = "abcdefghijklmnopqrstuvwx"
        loads = tuple(("l" + letter, "h", tuple((10 ** 40 + at, at) for _ in range(4)), 1, False)
                      for at, letter in enumerate(letters))
        run = Run((plain.chain(8, FAR), loads))
        for load in loads:
            run.do(("on", load[0]))
        run.go(10 ** 50)
        self.assertEqual(run.openings(), [])
        self.assertEqual(run.through("a"), sum(4 * at * (10 ** 40 + at) + 10 ** 50 - 4 * (10 ** 40 + at)
                                               for at in range(24)))

    def test_turns_times_a_great_number(self):
        rng = random.Random(13)
        great = 10 ** 45 + 7
        for _ in range(100):
            small, large = plain.small_and_large(rng, great)
            one, two = PlainRun(small), Run(large)
            for turn, deed in plain.some_events(rng, small) + [(50, ("close", "ga"))]:
                one.go(turn)
                two.go(turn * great)
                one.do(deed)
                two.do(deed)
            self.assertEqual([((turn + 1) * great - 1, names) for turn, names in one.openings], two.openings())
            for place in plain.places(small):
                self.assertEqual(one.drawn(place) * great, two.drawn(place))
            for load in small[1]:
                self.assertEqual([(first * great, (last + 1) * great - 1) for first, last in one.darkness(load[0])],
                                 two.darkness(load[0]))


class Sums(unittest.TestCase):
    def test_nothing_ahead_of_turn_0(self):
        run = done(Run(HOUSE), ("fault", "main", 5), ("open", "up"))
        for guard in HOUSE[0]:
            self.assertEqual(run.through(guard[0]), 0)
        for place in plain.places(HOUSE):
            self.assertEqual(run.drawn(place), 0)
        for load in HOUSE[1]:
            self.assertEqual(run.darkness(load[0]), [])

    def test_straight_and_through(self):
        run = done(Run(HOUSE), ("fault", "up", 3), ("fault", "lamp", 1), ("fault", "stove", 9))
        run.go(4)
        self.assertEqual([run.through(name) for name in ("main", "up", "attic", "kitchen", "spare")],
                         [56, 32, 12, 20, 0])
        self.assertEqual([run.drawn(name) for name in ("main", "up", "attic", "lamp", "fan", "motor", "stove", "bell")],
                         [0, 12, 0, 12, 8, 20, 0, 4])
        run.do(("open", "up"))
        run.go(10)
        self.assertEqual([run.through(name) for name in ("main", "up", "attic", "kitchen")], [92, 32, 12, 50])
        self.assertEqual([run.drawn(name) for name in ("up", "lamp", "fan", "motor")], [12, 12, 8, 50])

    def test_darkness(self):
        run = done(Run(HOUSE), ("open", "attic"))
        run.go(3)
        self.assertEqual(run.darkness("lamp"), [(0, 2)])
        run.go(4)
        done(run, ("close", "attic"), ("open", "up"))
        run.go(6)
        self.assertEqual((run.darkness("lamp"), run.darkness("fan")), ([(0, 5)], [(4, 5)]))
        run.do(("close", "up"))
        run.go(7)
        done(run, ("open", "up"), ("off", "fan"))
        run.go(8)
        self.assertEqual((run.darkness("lamp"), run.darkness("fan")), ([(0, 5), (7, 7)], [(4, 5)]))
        run.do(("on", "fan"))
        run.go(10)
        self.assertEqual((run.darkness("lamp"), run.darkness("fan")), ([(0, 5), (7, 9)], [(4, 5), (8, 9)]))
        self.assertEqual((run.darkness("heater"), run.darkness("bell")), ([], []))

    def test_darkness_is_not_broken_between_two_deeds_nor_made_by_them(self):
        run = done(Run(HOUSE), ("open", "attic"))
        run.go(3)
        done(run, ("close", "attic"), ("open", "attic"))
        run.go(5)
        done(run, ("off", "lamp"), ("on", "lamp"))
        run.go(6)
        self.assertEqual(run.darkness("lamp"), [(0, 5)])
        done(run, ("close", "attic"))
        run.go(8)
        done(run, ("open", "attic"), ("close", "attic"))
        run.go(9)
        self.assertEqual(run.darkness("lamp"), [(0, 5)])

    def test_dark_from_the_turn_behind_an_opening(self):
        run = done(Run(HOUSE), ("fault", "attic", 8))
        run.go(8)
        self.assertEqual((run.openings(), run.darkness("lamp"), run.dark()), ([(7, ("attic",))], [], ["lamp"]))
        run.go(9)
        self.assertEqual(run.darkness("lamp"), [(8, 8)])

    def test_what_is_no_place(self):
        run = Run(HOUSE)
        for thing in ODD_THINGS + ("mai", "lam", " main"):
            for ask in (run.through, run.drawn, run.darkness):
                self.assertRaises(NoPlace, ask, thing)
        for load in HOUSE[1]:
            self.assertRaises(NoPlace, run.through, load[0])
        for guard in HOUSE[0]:
            self.assertRaises(NoPlace, run.darkness, guard[0])


class OwnLists(unittest.TestCase):
    def test_what_is_done_to_a_told_one_changes_nothing(self):
        run = done(Run(HOUSE), ("fault", "attic", 8), ("open", "kitchen"))
        run.go(20)
        asks = (run.openings, run.closed, run.dark, lambda: run.darkness("motor"), lambda: run.darkness("bell"))
        for ask in asks:
            told = ask()
            self.assertIs(type(told), list)
            kept = list(told)
            told.append("x")
            told.reverse()
            self.assertEqual(ask(), kept)
        found = run.draws()
        self.assertIs(type(found), dict)
        self.assertEqual(list(found), [guard[0] for guard in HOUSE[0]])
        kept = dict(found)
        found["main"] = 99
        found.pop("up")
        self.assertEqual(run.draws(), kept)

    def test_nothing_done_later_changes_a_told_one(self):
        run = done(Run(HOUSE), ("fault", "attic", 8), ("open", "kitchen"))
        run.go(5)
        asks = (run.openings, run.closed, run.dark, lambda: run.darkness("motor"), run.draws)
        told = [ask() for ask in asks]
        kept = repr(told)
        run.go(30)
        done(run, ("close", "kitchen"), ("open", "main"))
        run.go(40)
        self.assertEqual(repr(told), kept)
        self.assertNotEqual(repr([ask() for ask in asks]), kept)

    def test_kinds_of_answers(self):
        run = done(Run(HOUSE), ("fault", "attic", 8), ("open", "kitchen"))
        run.go(20)
        opening = run.openings()[0]
        self.assertEqual([type(thing) for thing in (opening, opening[0], opening[1])], [tuple, int, tuple])
        self.assertIs(type(run.darkness("motor")[0]), tuple)
        self.assertEqual([type(thing) for thing in (run.turn(), run.through("main"), run.drawn("main"))], [int] * 3)

    def test_two_runs_of_one_board_do_not_mix(self):
        one, two = Run(HOUSE), Run(HOUSE)
        done(one, ("fault", "attic", 8), ("open", "kitchen"), ("off", "fan"))
        one.go(50)
        self.assertEqual((two.turn(), two.openings(), two.dark(), two.through("main")), (0, [], [], 0))
        self.assertEqual(two.draws()["main"], 10)


if __name__ == "__main__":
    unittest.main()
