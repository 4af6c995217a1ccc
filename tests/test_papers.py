"""Point 19, so far as a paper is told: stretches that join, draws, events, courses, and who opens by which step."""

import random
import unittest

from fuseboard.papers import paper_of
from tests import plain
from tests.plain import GREATEST, HOUSE, small_board, some_events, some_stuck

FAR = ((10 ** 9, 10 ** 9),)
ALONE = ((("top", None, ((10, 4), (20, 2)), 1, 0),), ())


class PaperCase(unittest.TestCase):
    def assert_joined(self, paper, upto, events):
        """What holds of each paper, whatever its numbers are."""
        self.assertIs(type(paper), list)
        ahead = 0
        for stretch in paper:
            self.assertIs(type(stretch), tuple)
            begin, end, draws, opened = stretch
            self.assertEqual((type(begin), type(end), type(draws), type(opened)), (int, int, tuple, tuple))
            self.assertEqual(begin, ahead)
            self.assertLess(begin, end)
            self.assertFalse([turn for turn, deed in events if begin < turn < end])
            ahead = end
        self.assertEqual(ahead, upto)

    def assert_stretch(self, stretch, records):
        """A stretch against the turns of a plain run."""
        begin, end, draws, opened = stretch
        for turn in range(begin, end):
            self.assertEqual(draws, tuple(records[turn]["draws"].values()))
            if turn > begin:
                self.assertEqual(records[turn]["stages"], records[turn - 1]["stages"])
            if turn < end - 1:
                self.assertEqual(records[turn]["opened"], {})
        told = records[end - 1]["opened"]
        self.assertEqual([row[0] for row in opened], list(told))
        for row in opened:
            self.assertIs(type(row), tuple)
            guard, step, since = row
            self.assertEqual((type(step), type(since)), (int, int))
            self.assertIn((step, since), told[guard])

    def assert_paper(self, board, stuck, events, upto):
        kept = repr((stuck, events))
        paper = paper_of(board, stuck, events, upto)
        self.assertEqual(repr((stuck, events)), kept)
        self.assert_joined(paper, upto, events)
        records = plain.plain_run(board, stuck, events, upto).turns
        for stretch in paper:
            self.assert_stretch(stretch, records)
        return paper


class SmallRuns(PaperCase):
    def test_up_to_turn_0(self):
        self.assertEqual(paper_of(HOUSE, None, [], 0), [])
        self.assertEqual(paper_of(HOUSE, [], [(0, ("fault", "main", 1000)), (4, ("open", "main"))], 0), [])

    def test_up_to_turn_1(self):
        self.assertEqual(paper_of(HOUSE, None, [], 1), [(0, 1, (10, 4, 5, 2, 0, 5, 0), ())])

    def test_at_rest(self):
        self.assertEqual(paper_of(HOUSE, None, [], 50), [(0, 50, (10, 4, 5, 2, 0, 5, 0), ())])

    def test_a_fault(self):
        self.assertEqual(paper_of(ALONE, None, [(2, ("fault", "top", 12))], 10),
                         [(0, 2, (0,), ()), (2, 7, (12,), (("top", 0, 2),)), (7, 10, (0,), ())])
        self.assertEqual(paper_of(ALONE, None, [(2, ("fault", "top", 12))], 7),
                         [(0, 2, (0,), ()), (2, 7, (12,), (("top", 0, 2),))])
        self.assertEqual(paper_of(ALONE, None, [(2, ("fault", "top", 12))], 6), [(0, 2, (0,), ()), (2, 6, (12,), ())])
        self.assertEqual(paper_of(ALONE, ("top",), [(2, ("fault", "top", 12))], 10),
                         [(0, 2, (0,), ()), (2, 10, (12,), ())])

    def test_step_and_since(self):
        events = [(2, ("fault", "top", 12)), (3, ("fault", "top", 25))]
        self.assertEqual(paper_of(ALONE, None, events, 10)[:3],
                         [(0, 2, (0,), ()), (2, 3, (12,), ()), (3, 6, (25,), (("top", 1, 3),))])
        events = [(2, ("fault", "top", 12)), (5, ("fault", "top", 25))]
        self.assertEqual(paper_of(ALONE, None, events, 10)[2], (5, 7, (25,), (("top", 0, 2),)))
        events = [(2, ("fault", "top", 12)), (4, ("fault", "top", 9)), (5, ("fault", "top", 10))]
        self.assertEqual(paper_of(ALONE, None, events, 10)[3], (5, 10, (10,), (("top", 0, 5),)))

    def test_several_together_in_order(self):
        board = ((("top", None, ((10, 4),), 0, 0), ("low", "top", ((10, 6), (20, 2)), 2, 0),
                  ("other", None, ((5, 3), (9, 1)), 1, 0)), ())
        events = [(0, ("fault", "low", 20)), (2, ("fault", "other", 9))]
        self.assertEqual(paper_of(board, None, events, 9),
                         [(0, 2, (20, 20, 0), ()),
                          (2, 4, (20, 20, 9), (("top", 0, 0), ("low", 1, 0), ("other", 1, 2))),
                          (4, 9, (0, 0, 0), ())])

    def test_cut_at_each_event_whatever_it_does(self):
        nothing = [(1, ("close", "main")), (3, ("on", "lamp")), (3, ("off", "stove")), (6, ("fault", "up", 0))]
        paper = self.assert_paper(HOUSE, None, nothing, 9)
        for turn in (0, 1, 3, 6):
            self.assertIn(turn, [stretch[0] for stretch in paper])

    def test_cut_where_a_course_comes_to_another_stretch_of_the_same_draw(self):
        board = ((("top", None, FAR, 0, 0),), (("fan", "top", ((2, 5), (3, 5), (1, 0), (2, 0)), 0, False),))
        paper = self.assert_paper(board, None, [(1, ("on", "fan"))], 20)
        for turn in (0, 1, 3, 6, 7, 9):
            self.assertIn(turn, [stretch[0] for stretch in paper])
        paper = self.assert_paper(board, None, [(1, ("on", "fan")), (4, ("open", "top")), (8, ("close", "top"))], 30)
        for turn in (0, 1, 3, 4, 8, 10, 13, 14, 16):
            self.assertIn(turn, [stretch[0] for stretch in paper])

    def test_events_of_the_turn_upto_and_later(self):
        events = [(2, ("fault", "top", 12)), (4, ("fault", "top", 0))]
        self.assertEqual(paper_of(ALONE, None, events, 2), [(0, 2, (0,), ())])
        self.assertEqual(paper_of(ALONE, None, events, 4), [(0, 2, (0,), ()), (2, 4, (12,), ())])

    def test_many_by_chance(self):
        rng = random.Random(15)
        opened = 0
        for _ in range(600):
            board = small_board(rng)
            events = some_events(rng, board)
            paper = self.assert_paper(board, some_stuck(rng, board), events, rng.randint(0, 45))
            opened += sum(len(stretch[3]) for stretch in paper)
        self.assertGreater(opened, 100)

    def test_house(self):
        rng = random.Random(16)
        for _ in range(60):
            turns = sorted(rng.randint(0, 60) for _ in range(15))
            events = [(turn, plain.some_deed(rng, HOUSE, 120)) for turn in turns]
            self.assert_paper(HOUSE, some_stuck(rng, HOUSE), events, rng.randint(0, 90))

    def test_a_list_of_the_askers_own(self):
        events = [(2, ("fault", "top", 12))]
        told = paper_of(ALONE, None, events, 10)
        kept = list(told)
        told.clear()
        self.assertEqual(paper_of(ALONE, None, events, 10), kept)
        told = paper_of(ALONE, None, events, 10)
        events.clear()
        self.assertEqual(told, kept)


class GreatRuns(PaperCase):
    def test_one_fault(self):
        board = ((("top", None, ((10, GREATEST), (20, 10 ** 59)), GREATEST, 5),), ())
        events = [(10 ** 59, ("fault", "top", GREATEST))]
        end = 10 ** 59 + 10 ** 59 + GREATEST
        self.assertEqual(paper_of(board, None, events, 10 ** 61),
                         [(0, 10 ** 59, (0,), ()), (10 ** 59, end, (GREATEST,), (("top", 1, 10 ** 59),)),
                          (end, 10 ** 61, (0,), ())])
        self.assertEqual(paper_of(board, None, [], GREATEST), [(0, GREATEST, (0,), ())])

    def test_a_course(self):
        board = ((("top", None, FAR, 0, 0),), (("fan", "top", ((GREATEST, 5), (10 ** 58, GREATEST)), 7, False),))
        paper = paper_of(board, ["top"], [(1, ("on", "fan"))], 10 ** 62)
        self.assertEqual(paper, [(0, 1, (0,), ()), (1, GREATEST + 1, (5,), ()),
                                 (GREATEST + 1, GREATEST + 1 + 10 ** 58, (GREATEST,), ()),
                                 (GREATEST + 1 + 10 ** 58, 10 ** 62, (7,), ())])

    def test_turns_times_a_great_number(self):
        rng = random.Random(17)
        great = 10 ** 44 + 3
        for _ in range(150):
            small, large = plain.small_and_large(rng, great)
            events, upto = some_events(rng, small), rng.randint(1, 45)
            late = [(turn * great, deed) for turn, deed in events]
            told = paper_of(large, None, late, upto * great)
            self.assert_joined(told, upto * great, late)
            records = plain.plain_run(small, None, events, upto).turns
            for begin, end, draws, opened in told:
                self.assertEqual((begin % great, end % great), (0, 0))
                self.assertFalse([since for guard, step, since in opened if since % great])
                self.assert_stretch((begin // great, end // great, draws, tuple(
                    (guard, step, since // great) for guard, step, since in opened)), records)

    def test_two_hundred_events_on_a_great_board(self):
        rng = random.Random(18)
        guards = tuple((*guard[:3], 10 ** 50, 10 ** 49) for guard in plain.chain(8, ((300, 10 ** 50), (900, 10 ** 40))))
        loads = tuple(("l" + letter, rng.choice("abcdefgh"), ((10 ** 45, 3), (10 ** 46, 2), (10 ** 47, 2)), 1, False)
                      for letter in "abcdefghijklmnopqrstuvwx")
        turns = sorted(rng.randrange(10 ** 52) for _ in range(200))
        events = [(turn, plain.some_deed(rng, (guards, loads), 400)) for turn in turns]
        paper = paper_of((guards, loads), None, events, 10 ** 53)
        self.assert_joined(paper, 10 ** 53, events)
        self.assertTrue([stretch for stretch in paper if stretch[3]])


if __name__ == "__main__":
    unittest.main()
