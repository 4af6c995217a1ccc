"""Point 19, so far as it is told of any thing whether it is a paper: True or False."""

import random
import unittest

from fuseboard.looker import lets_by
from fuseboard.papers import paper_of
from tests import plain
from tests.plain import (GREATEST, HOUSE, ODD_THINGS, TOO_GREAT, at_path, paths, put, small_board, some_events,
                         some_stuck)

ALONE = ((("top", None, ((10, 4), (20, 2)), 1, 0),), ())
FAR = ((10 ** 9, 10 ** 9),)
FAULT = [(2, ("fault", "top", 12))]
# Up to turn 10, with FAULT.
RIGHT = [(0, 2, (0,), ()), (2, 7, (12,), (("top", 0, 2),)), (7, 10, (0,), ())]


class Case:
    """A run with events up to a turn, gone turn by turn, and point 19 over it in plain words."""

    def __init__(self, board, stuck, events, upto):
        self.asked = (board, stuck, events, upto)
        self.upto = upto
        self.event_turns = {turn for turn, deed in events}
        self.records = plain.plain_run(board, stuck, events, upto).turns

    def draws(self, turn):
        return tuple(self.records[turn]["draws"].values())

    def begins(self, turn):
        """Whether a stretch has to begin with this turn."""
        if turn == 0 or turn in self.event_turns or self.records[turn - 1]["opened"]:
            return True
        return self.records[turn]["stages"] != self.records[turn - 1]["stages"]

    def is_opened(self, turn, opened):
        told = self.records[turn]["opened"]
        for row in opened:
            if type(row) is not tuple or len(row) != 3 or [type(part) for part in row] != [str, int, int]:
                return False
        return [row[0] for row in opened] == list(told) and all((step, since) in told[name]
                                                                for name, step, since in opened)

    def is_stretch(self, thing, ahead):
        if type(thing) is not tuple or len(thing) != 4:
            return False
        if [type(part) for part in thing] != [int, int, tuple, tuple]:
            return False
        begin, end, draws, opened = thing
        if begin != ahead or not begin < end <= self.upto:
            return False
        if not all(type(draw) is int for draw in draws) or {self.draws(turn) for turn in range(begin, end)} != {draws}:
            return False
        return not any(self.begins(turn) for turn in range(begin + 1, end)) and self.is_opened(end - 1, opened)

    def is_paper(self, thing):
        if type(thing) is not list:
            return False
        ahead = 0
        for stretch in thing:
            if not self.is_stretch(stretch, ahead):
                return False
            ahead = stretch[1]
        return ahead == self.upto

    def paper(self, cuts, pick):
        """The paper that is cut at these turns and where it has to be; pick takes one of the full steps."""
        begins = [turn for turn in range(self.upto) if turn in cuts or self.begins(turn)]
        found = []
        for begin, end in zip(begins, begins[1:] + [self.upto]):
            opened = self.records[end - 1]["opened"]
            found.append((begin, end, self.draws(begin), tuple((name, *pick(opened[name])) for name in opened)))
        return found


def some_case(rng):
    board = small_board(rng)
    return Case(board, some_stuck(rng, board), some_events(rng, board), rng.randint(1, 40))


def waiting_case(rng):
    """A top that waits while low is awake, so that several of its steps are past their turns when low is not."""
    curve = tuple(zip(sorted(rng.sample(range(1, 10), 3)), sorted(rng.sample(range(1, 7), 3), reverse=True)))
    board = ((("top", None, curve, rng.choice((0, 0, 1)), rng.randint(4, 12)), ("low", "top", ((1, 90),), 0, 0)), ())
    turns = sorted(rng.sample(range(10), 4))
    events = [(turn, ("fault", "low", rng.randint(1, 12))) for turn in turns[:3]]
    events += [(turns[3], ("fault", "low", 0)), (turns[3], ("fault", "top", rng.randint(1, 12)))]
    return Case(board, None, events, rng.randint(turns[3] + 1, 14))


def bent_part(rng, part):
    """Something near a part of a paper."""
    if isinstance(part, str):
        return rng.choice(("top", "ga", "gb", "gc", part + "a", part[:-1]))
    if isinstance(part, int):
        return rng.choice((part - 1, part + 1, part + 2, 0, 1, -part, part + TOO_GREAT))
    parts = list(part)
    if parts:
        at = rng.randrange(len(parts))
        deed = rng.randrange(4)
        if deed == 0:
            del parts[at]
        if deed == 1:
            parts.insert(at, parts[at])
        if deed == 2:
            parts.reverse()
        if deed == 3:
            other = rng.randrange(len(parts))
            parts[at], parts[other] = parts[other], parts[at]
    else:
        parts.append(rng.choice((0, ("ga", 0, 0), ("gb", 0, 0), (0, 1, (), ()))))
    return parts if isinstance(part, list) else tuple(parts)


class LookerCase(unittest.TestCase):
    def assert_let_by(self, case, thing, answer):
        self.assertIs(lets_by(*case.asked, thing), answer, (case.asked, thing))

    def assert_judged(self, case, thing):
        answer = case.is_paper(thing)
        self.assert_let_by(case, thing, answer)
        return answer


class RightPapers(LookerCase):
    def test_a_fault(self):
        self.assertIs(lets_by(ALONE, None, FAULT, 10, RIGHT), True)
        self.assertIs(lets_by(ALONE, None, FAULT, 7, RIGHT[:2]), True)
        self.assertIs(lets_by(ALONE, None, FAULT, 2, RIGHT[:1]), True)
        self.assertIs(lets_by(ALONE, None, FAULT, 6, [RIGHT[0], (2, 6, (12,), ())]), True)
        self.assertIs(lets_by(ALONE, None, FAULT, 7, [RIGHT[0], (2, 6, (12,), ()), (6, 7, (12,), (("top", 0, 2),))]),
                      True)

    def test_up_to_turn_0(self):
        self.assertIs(lets_by(ALONE, None, [], 0, []), True)
        self.assertIs(lets_by(ALONE, None, [(0, ("open", "top"))], 0, []), True)
        for thing in ODD_THINGS + ([(0, 0, (0,), ())], [(0, 1, (0,), ())], [()], [[]], [None]):
            if thing != [] or not isinstance(thing, list):
                self.assertIs(lets_by(ALONE, None, [], 0, thing), False)
        self.assertIs(lets_by(ALONE, None, [], 1, []), False)
        self.assertIs(lets_by(ALONE, None, FAULT, 10, []), False)
        self.assertIs(lets_by(ALONE, None, [], GREATEST, []), False)

    def test_the_paper_told_and_others_as_right(self):
        rng = random.Random(60)
        several = 0
        for _ in range(400):
            case = rng.choice((some_case, waiting_case))(rng)
            told = paper_of(*case.asked)
            self.assert_let_by(case, told, True)
            self.assert_let_by(case, case.paper(range(case.upto), lambda steps: steps[0]), True)
            self.assert_let_by(case, case.paper(range(case.upto), lambda steps: steps[-1]), True)
            self.assert_let_by(case, case.paper((), lambda steps: steps[0]), True)
            for _ in range(4):
                cuts = [turn for turn in range(case.upto) if rng.random() < 0.3]
                self.assert_let_by(case, case.paper(cuts, rng.choice), True)
            for at, (begin, end, draws, opened) in enumerate(told):
                for name, steps in case.records[end - 1]["opened"].items():
                    several += len(steps) > 1
                    for step, since in steps:
                        rows = tuple((name, step, since) if row[0] == name else row for row in opened)
                        self.assert_let_by(case, put(told, (at,), (begin, end, draws, rows)), True)
        self.assertGreater(several, 40)

    def test_house(self):
        rng = random.Random(61)
        for _ in range(40):
            turns = sorted(rng.randint(0, 60) for _ in range(15))
            events = [(turn, plain.some_deed(rng, HOUSE, 120)) for turn in turns]
            case = Case(HOUSE, some_stuck(rng, HOUSE), events, rng.randint(1, 90))
            self.assert_let_by(case, paper_of(*case.asked), True)
            self.assert_let_by(case, case.paper(range(case.upto), rng.choice), True)

    def test_nothing_handed_in_is_changed(self):
        events, stuck, thing = list(FAULT), ["top", "top"], list(RIGHT)
        self.assertIs(lets_by(ALONE, stuck, events, 10, thing), False)
        self.assertIs(lets_by(ALONE, [], events, 10, thing), True)
        self.assertEqual((events, stuck, thing), (FAULT, ["top", "top"], RIGHT))

    def test_stuck(self):
        still = [(0, 2, (0,), ()), (2, 10, (12,), ())]
        for stuck in (["top"], ("top",), ["top", "top"], ("top", "top")):
            self.assertIs(lets_by(ALONE, stuck, FAULT, 10, still), True)
            self.assertIs(lets_by(ALONE, stuck, FAULT, 10, RIGHT), False)
        for stuck in (None, [], ()):
            self.assertIs(lets_by(ALONE, stuck, FAULT, 10, RIGHT), True)
            self.assertIs(lets_by(ALONE, stuck, FAULT, 10, still), False)

    def test_each_full_step_and_no_other(self):
        # The wait keeps top closed while low is awake, though steps are past their turns.
        board = ((("top", None, ((10, 5), (20, 3), (40, 1)), 0, 9), ("low", "top", ((15, 90),), 0, 0)), ())
        events = [(0, ("fault", "low", 15)), (2, ("fault", "low", 25)), (7, ("fault", "low", 0)),
                  (7, ("fault", "top", 40))]
        paper = [(0, 2, (15, 15), ()), (2, 7, (25, 25), ()), None]
        for step, since in ((0, 0), (1, 2), (2, 7)):
            paper[2] = (7, 8, (40, 0), (("top", step, since),))
            self.assertIs(lets_by(board, None, events, 8, paper), True)
        for step, since in ((0, 2), (1, 0), (2, 2), (1, 7), (3, 7), (-1, 7), (-3, 0), (0, 1), (0, -1)):
            paper[2] = (7, 8, (40, 0), (("top", step, since),))
            self.assertIs(lets_by(board, None, events, 8, paper), False, (step, since))
        # Now the first step is met, for as long as it is told, but isn't full.
        events[3] = (7, ("fault", "top", 10))
        paper[2] = (7, 8, (10, 0), (("top", 0, 0),))
        self.assertIs(lets_by(board, None, events, 8, paper), True)
        events[3] = (7, ("fault", "top", 9))
        paper[2] = (7, 8, (9, 0), (("top", 0, 0),))
        self.assertIs(lets_by(board, None, events, 8, paper), False)
        paper[2] = (7, 8, (9, 0), ())
        self.assertIs(lets_by(board, None, events, 8, paper), True)

    def test_a_step_that_is_not_full_beside_one_that_is(self):
        self.assertIs(lets_by(ALONE, None, [(0, ("fault", "top", 25))], 3, [(0, 3, (25,), (("top", 1, 0),))]), True)
        self.assertIs(lets_by(ALONE, None, [(0, ("fault", "top", 25))], 3, [(0, 3, (25,), (("top", 0, 0),))]), False)


class WrongPapers(LookerCase):
    def test_an_event_inside(self):
        for deed in (("close", "top"), ("fault", "top", 0), ("fault", "top", 3)):
            draw = deed[-1] if deed[0] == "fault" else 0
            events = [(4, deed)]
            self.assertIs(lets_by(ALONE, None, events, 9, [(0, 4, (0,), ()), (4, 9, (draw,), ())]), True)
            self.assertIs(lets_by(ALONE, None, events, 9, [(0, 9, (draw,), ())]), False)
            self.assertIs(lets_by(ALONE, None, events, 9, [(0, 5, (0,), ()), (5, 9, (draw,), ())]), False)
            self.assertIs(lets_by(ALONE, None, events, 9, [(0, 3, (0,), ()), (3, 9, (draw,), ())]), False)
            self.assertIs(lets_by(ALONE, None, events, 4, [(0, 4, (0,), ())]), True)

    def test_a_course_that_comes_to_another_stretch_of_the_same_draw(self):
        board = ((("top", None, FAR, 0, 0),), (("fan", "top", ((2, 5), (3, 5)), 5, False),))
        events = [(1, ("on", "fan"))]
        whole = [(0, 1, (0,), ()), (1, 3, (5,), ()), (3, 6, (5,), ()), (6, 20, (5,), ())]
        self.assertIs(lets_by(board, None, events, 20, whole), True)
        self.assertIs(lets_by(board, None, events, 20, [*whole[:1], (1, 6, (5,), ()), whole[3]]), False)
        self.assertIs(lets_by(board, None, events, 20, [*whole[:2], (3, 20, (5,), ())]), False)
        self.assertIs(lets_by(board, None, events, 20, [*whole[:3], (6, 7, (5,), ()), (7, 20, (5,), ())]), True)
        # A course that isn't gone through, as the load is off or not fed, cuts nothing.
        gone = events + [(2, ("open", "top"))]
        self.assertIs(lets_by(board, None, gone, 20, [(0, 1, (0,), ()), (1, 2, (5,), ()), (2, 20, (0,), ())]), True)
        gone = events + [(2, ("off", "fan"))]
        self.assertIs(lets_by(board, None, gone, 20, [(0, 1, (0,), ()), (1, 2, (5,), ()), (2, 20, (0,), ())]), True)

    def test_several_that_open_together(self):
        board = ((("top", None, ((10, 4),), 0, 0), ("low", "top", ((10, 4),), 0, 0)), ())
        events = [(0, ("fault", "low", 20))]
        top, low = ("top", 0, 0), ("low", 0, 0)
        self.assertIs(lets_by(board, None, events, 4, [(0, 4, (20, 20), (top, low))]), True)
        for opened in ((low, top), (top,), (low,), (), (top, top), (low, low), (top, low, low), (top, top, low),
                       (top, low, ("other", 0, 0)), (("other", 0, 0), low)):
            self.assertIs(lets_by(board, None, events, 4, [(0, 4, (20, 20), opened)]), False, opened)

    def test_bent_somewhere(self):
        rng = random.Random(62)
        answers = []
        for _ in range(500):
            case = rng.choice((some_case, some_case, waiting_case))(rng)
            cuts = [turn for turn in range(case.upto) if rng.random() < 0.1]
            paper = case.paper(cuts, rng.choice)
            for _ in range(12):
                path = rng.choice(paths(paper))
                answers.append(self.assert_judged(case, put(paper, path, bent_part(rng, at_path(paper, path)))))
        self.assertGreater(answers.count(False), 3000)
        self.assertGreater(answers.count(True), 100)

    def test_each_place_bent(self):
        rng = random.Random(63)
        for _ in range(40):
            case = some_case(rng)
            paper = case.paper((), rng.choice)
            for path in paths(paper):
                part = at_path(paper, path)
                for _ in range(3):
                    self.assert_judged(case, put(paper, path, bent_part(rng, part)))

    def test_cut_in_two_and_laid_together(self):
        rng = random.Random(64)
        answers = []
        for _ in range(300):
            case = some_case(rng)
            paper = case.paper((), rng.choice)
            for at, (begin, end, draws, opened) in enumerate(paper):
                cut = rng.randint(begin, end)
                halves = [(begin, cut, draws, rng.choice(((), opened))), (cut, end, draws, opened)]
                answers.append(self.assert_judged(case, paper[:at] + halves + paper[at + 1:]))
                following = paper[at + 1:at + 2]
                for draw in {draws} | {stretch[2] for stretch in following}:
                    for rows in [stretch[3] for stretch in following]:
                        joined = (begin, following[0][1], draw, rows)
                        answers.append(self.assert_judged(case, paper[:at] + [joined] + paper[at + 2:]))
        self.assertGreater(answers.count(True), 100)
        self.assertGreater(answers.count(False), 1000)

    def test_other_events_stuck_guards_and_ends(self):
        rng = random.Random(65)
        answers = []
        for _ in range(500):
            board = small_board(rng)
            events, upto = some_events(rng, board), rng.randint(0, 30)
            paper = paper_of(board, None, events, upto)
            others = [event for event in events if rng.random() < 0.8]
            for case in (Case(board, None, others, upto), Case(board, some_stuck(rng, board), events, upto),
                         Case(board, None, events, upto + 1), Case(board, None, events, max(0, upto - 1)),
                         Case(small_board(rng), None, [], upto)):
                answers.append(self.assert_judged(case, paper))
        self.assertGreater(answers.count(True), 300)
        self.assertGreater(answers.count(False), 1000)


class AnyThing(LookerCase):
    def test_things_of_any_kind(self):
        for thing in ODD_THINGS + (RIGHT[0], tuple(RIGHT), dict(enumerate(RIGHT)), str(RIGHT), [RIGHT], {0: RIGHT}):
            self.assertIs(lets_by(ALONE, None, FAULT, 10, thing), False)
            self.assertIs(lets_by(ALONE, None, FAULT, 10, [thing]), False)
            self.assertIs(lets_by(ALONE, None, FAULT, 10, RIGHT + [thing]), False)

    def test_another_kind_in_each_place(self):
        # The numbers 0 and 1 stand there, so that truths and numbers of other kinds are equal to what is right.
        board = ((("top", None, ((1, 1),), 0, 0), ("low", "top", ((1, 3), (2, 1)), 0, 0)), ())
        case = Case(board, None, [(0, ("fault", "top", 0)), (1, ("fault", "low", 1)), (2, ("close", "top"))], 3)
        paper = paper_of(*case.asked)
        self.assertEqual(paper, [(0, 1, (0, 0), ()), (1, 2, (1, 1), (("top", 0, 1),)), (2, 3, (1, 1), (("top", 0, 2),))])
        self.assert_judged(case, paper)
        for path in paths(paper):
            part = at_path(paper, path)
            others = list(ODD_THINGS)
            if isinstance(part, (list, tuple)):
                others += [list(part), tuple(part), dict(enumerate(part)), str(part), [part], (part,)]
            else:
                others += [[part], (part,), str(part), {part: part}, {part}, b"top"]
            if isinstance(part, int):
                others += [bool(part), float(part), complex(part), part + 0.5]
            for other in others:
                same = type(other) is type(part) and other == part
                self.assertIs(lets_by(*case.asked, put(paper, path, other)), same, (path, other))

    def test_more_or_fewer_parts(self):
        case = Case(ALONE, None, FAULT, 10)
        for path in paths(RIGHT):
            part = at_path(RIGHT, path)
            if isinstance(part, tuple):
                for other in (part + (0,), part + part, part + ((),), part[1:], part[:-1], (part,)):
                    self.assert_let_by(case, put(RIGHT, path, other), other == part)

    def test_a_list_that_holds_itself(self):
        thing = []
        thing.append(thing)
        self.assertIs(lets_by(ALONE, None, FAULT, 10, thing), False)
        self.assertIs(lets_by(ALONE, None, FAULT, 10, RIGHT[:1] + [(2, 7, (12,), (thing, thing))]), False)


class GreatNumbers(LookerCase):
    def test_one_fault(self):
        board = ((("top", None, ((10, GREATEST), (20, 10 ** 59)), GREATEST, 5),), ())
        events = [(10 ** 59, ("fault", "top", GREATEST))]
        end = 10 ** 59 + 10 ** 59 + GREATEST
        paper = [(0, 10 ** 59, (0,), ()), (10 ** 59, end, (GREATEST,), (("top", 1, 10 ** 59),)), (end, 10 ** 61, (0,), ())]
        self.assertIs(lets_by(board, None, events, 10 ** 61, paper), True)
        for path in paths(paper):
            part = at_path(paper, path)
            if isinstance(part, int):
                for other in (part + 1, part - 1, -part - 1, part + 10 ** 61, 10 ** 5000):
                    self.assertIs(lets_by(board, None, events, 10 ** 61, put(paper, path, other)), False)
        fine = paper[:1] + [(10 ** 59, end - 1, (GREATEST,), ()), (end - 1, end, *paper[1][2:])] + paper[2:]
        self.assertIs(lets_by(board, None, events, 10 ** 61, fine), True)

    def test_turns_times_a_great_number(self):
        rng = random.Random(66)
        great = 10 ** 44 + 3
        for _ in range(150):
            small, large = plain.small_and_large(rng, great)
            events, upto = some_events(rng, small), rng.randint(1, 40)
            case = Case(small, None, events, upto)
            late = [(turn * great, deed) for turn, deed in events]
            paper = case.paper([turn for turn in range(upto) if rng.random() < 0.2], rng.choice)
            grown = [(begin * great, end * great, draws, tuple((name, step, since * great) for name, step, since in rows))
                     for begin, end, draws, rows in paper]
            self.assertIs(lets_by(large, None, late, upto * great, grown), True)
            path = rng.choice([path for path in paths(grown) if isinstance(at_path(grown, path), int)])
            bent = put(grown, path, at_path(grown, path) + 1)
            self.assertIs(lets_by(large, None, late, upto * great, bent), False)

    def test_draws_of_more_than_sixty_figures(self):
        board = ((("top", None, ((GREATEST, GREATEST),), 0, 0),), (("one", "top", (), GREATEST, False),
                                                                   ("two", "top", (), GREATEST, False)))
        events = [(3, ("on", "one")), (3, ("on", "two"))]
        paper = [(0, 3, (0,), ()), (3, GREATEST, (2 * GREATEST,), ())]
        self.assertIs(lets_by(board, None, events, GREATEST, paper), True)
        self.assertIs(lets_by(board, None, events, GREATEST, put(paper, (1, 2, 0), 2 * GREATEST + 1)), False)

    def test_a_long_paper(self):
        paper = [(turn, turn + 1, (0,), ()) for turn in range(5000)]
        self.assertIs(lets_by(ALONE, None, [(5000, ("fault", "top", 3))], 5000, paper), True)
        self.assertIs(lets_by(ALONE, None, [(4999, ("fault", "top", 3))], 5000, paper), False)


if __name__ == "__main__":
    unittest.main()
