"""Point 30: a desk, the answers to its rows sign by sign, and what it refuses."""

import unittest

from fuseboard.desk import Desk
from fuseboard.errors import Blind, Loud, NoDeed, NoPlace, NoRow, NoText, NoTurn
from tests.plain import GREATEST, ODD_THINGS

# Main draws 5 at rest; a fault at kitchen of 40 wakes kitchen, one of 95 main.
TEXT = """guard main - 2 5 100:20 300:3
guard kitchen main 0 0 40:10
guard attic main 0 0 30:4
load lamp main on 5
load stove kitchen off 30 2:60 4:45
load fan attic off 7"""
LINE = TEXT.replace("\n", " / ")


class DeskCase(unittest.TestCase):
    def assert_answers(self, desk, *rows):
        """Rows and their answers, by turns."""
        for row, answer in zip(rows[::2], rows[1::2]):
            told = desk.say(row)
            self.assertIs(type(told), str)
            self.assertEqual(told, answer, row)

    def assert_refused(self, desk, kind, *rows):
        for row in rows:
            with self.assertRaises(kind) as caught:
                desk.say(row)
            self.assertIs(type(caught.exception), kind, row)


class OfTheRun(DeskCase):
    def test_draws_and_deeds(self):
        self.assert_answers(
            Desk(TEXT, 500),
            "draws", "main=5 kitchen=0 attic=0",
            "on stove", "ok",
            "draws", "main=65 kitchen=60 attic=0",
            "fault attic 3", "ok",
            "draws", "main=68 kitchen=60 attic=3",
            "go 2", "-",
            "draws", "main=53 kitchen=45 attic=3",
            "off stove", "ok",
            "fault attic 0", "ok",
            "draws", "main=5 kitchen=0 attic=0",
            "open main", "ok",
            "draws", "main=0 kitchen=0 attic=0",
            "close main", "ok",
            "close main", "ok",
            "on lamp", "ok",
            "draws", "main=5 kitchen=0 attic=0")

    def test_go(self):
        self.assert_answers(
            Desk(TEXT, 500),
            "go 0", "-",
            "go 3", "-",
            "go 3", "-",
            "fault kitchen 40", "ok",
            "go 12", "-",
            "go 13", "12:kitchen",
            "go 13", "-",
            "close kitchen", "ok",
            "fault attic 30", "ok",
            "go 100", "16:attic 22:kitchen",
            "close attic", "ok",
            "close kitchen", "ok",
            "fault kitchen 0", "ok",
            "fault attic 300", "ok",
            "fault main 295", "ok",
            # Main, held, opens in 3 + 2 + 5 turns, attic in 4, main then, no longer held, in 5.
            "go 200", "103:attic 104:main")

    def test_names_of_one_opening_in_order(self):
        text = "guard top - 0 0 10:3\nguard low top 0 0 10:3\nguard next - 1 0 10:2\nload lamp low on 1"
        self.assert_answers(Desk(text, 9), "fault lamp 20", "ok", "fault next 10", "ok", "go 50", "2:top,low,next",
                            "dark", "lamp")

    def test_dark(self):
        self.assert_answers(
            Desk(TEXT, 500),
            "dark", "-",
            "open main", "ok",
            "dark", "lamp",
            "on fan", "ok",
            "on stove", "ok",
            "dark", "lamp stove fan",
            "close main", "ok",
            "open kitchen", "ok",
            "dark", "stove",
            "off stove", "ok",
            "dark", "-")

    def test_sums(self):
        self.assert_answers(
            Desk(TEXT, 500),
            "sum lamp", "0",
            "through main", "0",
            "go 4", "-",
            "sum lamp", "20",
            "sum main", "0",
            "through main", "20",
            "through kitchen", "0",
            "fault kitchen 7", "ok",
            "on stove", "ok",
            "go 7", "-",
            "sum kitchen", "21",
            "sum stove", "165",
            "through kitchen", "186",
            "through main", "221",
            "sum main", "0",
            "sum lamp", "35")

    def test_great_numbers(self):
        self.assert_answers(
            Desk(TEXT, 500),
            f"go {GREATEST}", "-",
            "sum lamp", str(5 * GREATEST),
            "through main", str(5 * GREATEST),
            f"fault main {GREATEST}", "ok",
            "draws", f"main={GREATEST + 5} kitchen=0 attic=0")
        text = f"guard main - {GREATEST} 0 5:{GREATEST}"
        self.assert_answers(Desk(text, 500), "go 9", "-", "fault main 5", "ok", f"go {GREATEST}", "-")

    def test_no_turn(self):
        desk = Desk(TEXT, 500)
        desk.say("go 7")
        self.assert_refused(desk, NoTurn, "go 6", "go 0")
        self.assert_answers(desk, "go 7", "-", "sum lamp", "35")

    def test_no_deed(self):
        desk = Desk(TEXT, 500)
        self.assert_refused(desk, NoDeed, "fault nobody 5", "on main", "on nobody", "off kitchen", "open lamp", "close fan",
                            "open nobody", "close nobody")
        self.assert_answers(desk, "draws", "main=5 kitchen=0 attic=0", "dark", "-")

    def test_no_place(self):
        desk = Desk(TEXT, 500)
        self.assert_refused(desk, NoPlace, "sum nobody", "through nobody", "through lamp", "through stove")


class OfTheKeeper(DeskCase):
    def test_board(self):
        self.assert_answers(Desk(TEXT, 500), "board", LINE)
        self.assert_answers(Desk("guard a - 0 0 1:1", 1), "board", "guard a - 0 0 1:1")

    def test_row(self):
        self.assert_answers(
            Desk(TEXT, 500),
            "row main", "5 parted",
            "row kitchen", "0 not 295 main,kitchen",
            "row attic", "0 parted",
            "row lamp", "5 parted",
            "row stove", "0 parted",
            "change on stove", "main kitchen stove",
            "row stove", "30 not 265 main,kitchen",
            "change load lamp 70", "main kitchen attic lamp stove fan",
            "row main", "100 awake main",
            "row fan", "0 awake main",
            "change guard main 2 4 200:20 300:3", "main kitchen attic lamp stove fan",
            "row kitchen", "30 not 200 main")

    def test_changes(self):
        self.assert_answers(
            Desk(TEXT, 294),
            "change on lamp", "-",
            "change off stove", "-",
            "change off lamp", "main lamp",
            "change on lamp", "main lamp",
            "change move fan main", "-",
            "change on fan", "main kitchen fan",
            "change move fan attic", "attic",
            "change load fan 8", "main kitchen attic fan",
            "change load fan 8 1:2 3:4", "-",
            "board", LINE.replace("load fan attic off 7", "load fan attic on 8 1:2 3:4"),
            "change guard kitchen 1 0 40:10", "kitchen",
            "row kitchen", "0 not 287 main",
            "change guard kitchen 0 0 40:10", "kitchen",
            "row kitchen", "0 not 287 main,kitchen",
            "change guard kitchen 9 8 40:10 50:9 60:8 70:7 80:6", "kitchen",
            "board", LINE.replace("load fan attic off 7", "load fan attic on 8 1:2 3:4")
                         .replace("kitchen main 0 0 40:10", "kitchen main 9 8 40:10 50:9 60:8 70:7 80:6"))

    def test_map(self):
        self.assert_answers(
            Desk(TEXT, 500),
            "map kitchen", "1-39 - / 40-294 9:kitchen / 295-500 9:main,kitchen",
            "map main", "1-94 - / 95-294 21:main / 295-500 4:main",
            "map lamp", "1-94 - / 95-294 21:main / 295-500 4:main",
            "map stove", "1-500 -",
            "map attic", "1-29 - / 30-500 3:attic",
            "change guard kitchen 0 0 1:1", "kitchen",
            "map kitchen", "1-500 0:kitchen")
        self.assert_answers(Desk(TEXT, 1), "map kitchen", "1-1 -")

    def test_least(self):
        self.assert_answers(
            Desk(TEXT, 500),
            "least", "main=3 kitchen=0 attic=0",
            "change guard main 99 0 100:20 300:3", "kitchen",
            "least", "main=8 kitchen=0 attic=0",
            "change guard kitchen 4 0 40:21", "-",
            "least", "main=19 kitchen=0 attic=0")
        self.assert_answers(Desk(TEXT, 294), "least", "main=0 kitchen=0 attic=0")

    def test_least_of_more_than_sixty_figures(self):
        text = "\n".join(f"guard {name} {under} 0 0 5:{GREATEST} {10 + at}:1"
                         for at, (name, under) in enumerate(("a-", "ba", "cb", "dc")))
        self.assert_answers(Desk(text, 99), "least", f"a={3 * GREATEST} b={2 * GREATEST} c={GREATEST} d=0")

    def test_no_place_and_loud(self):
        desk = Desk(TEXT, 500)
        self.assert_refused(desk, NoPlace, "row nobody", "map nobody")
        desk.say("change load lamp 100")
        self.assert_refused(desk, NoPlace, "row nobody", "map nobody")
        self.assert_refused(desk, Loud, "map main", "map stove", "least")
        with self.assertRaises(Loud) as caught:
            desk.say("least")
        self.assertEqual(caught.exception.guard, "main")
        self.assert_answers(desk, "row stove", "0 awake main", "change load lamp 5", "main kitchen attic lamp stove fan",
                            "map stove", "1-500 -")

    def test_blind(self):
        desk = Desk(TEXT, 500)
        self.assert_answers(desk, "change guard attic 0 0 96:4", "attic")
        self.assert_refused(desk, Blind, "least")
        with self.assertRaises(Blind) as caught:
            desk.say("least")
        told = caught.exception
        self.assertEqual((told.lower, told.upper, told.greatness), ("attic", "main", 95))
        desk.say("change load lamp 100")
        self.assert_refused(desk, Loud, "least")

    def test_no_deed_changes_nothing(self):
        desk = Desk(TEXT, 500)
        self.assert_refused(
            desk, NoDeed, "change on main", "change on nobody", "change off kitchen", "change move lamp stove",
            "change move main kitchen", "change move lamp nobody", "change move nobody main", "change load main 5",
            "change load nobody 5", "change load lamp 5 0:3", "change load lamp 5 1:1 1:1 1:1 1:1 1:1",
            "change guard main 0 0", "change guard main 0 0 0:5", "change guard main 0 0 5:0", "change guard lamp 0 0 5:5",
            "change guard nobody 0 0 5:5", "change guard main 0 0 5:5 6:5", "change guard main 0 0 5:5 5:4",
            "change guard main 0 0 1:9 2:8 3:7 4:6 5:5 6:4")
        self.assert_answers(desk, "board", LINE, "row kitchen", "0 not 295 main,kitchen")

    def test_the_runs_board_is_not_changed(self):
        desk = Desk(TEXT, 500)
        self.assert_answers(
            desk,
            "change guard kitchen 0 0 1:1", "kitchen",
            "change off lamp", "main lamp",
            "change move stove attic", "-",
            "change load fan 90", "-",
            "draws", "main=5 kitchen=0 attic=0",
            "fault kitchen 40", "ok",
            "on stove", "ok",
            "draws", "main=105 kitchen=100 attic=0",
            "go 20", "9:kitchen",
            "on fan", "ok",
            "draws", "main=12 kitchen=0 attic=7")
        # Nor the keeper's board by the run.
        self.assert_answers(
            desk,
            "board", LINE.replace("40:10", "1:1").replace("lamp main on", "lamp main off")
                         .replace("stove kitchen", "stove attic").replace("off 7", "off 90"),
            "row kitchen", "0 parted",
            "map kitchen", "1-500 0:kitchen")


class NoRows(DeskCase):
    def test_things_that_are_no_rows(self):
        desk = Desk(TEXT, 500)
        self.assert_refused(
            desk, NoRow, *ODD_THINGS, "", "go", "go 5 6", "go  5", " go 5", "go 5 ", "go 05", "Go 5", "go five", "go -1",
            "go " + "1" * 61, "fault main", "fault 5 main", "fault main 5 5", "on", "on lamp fan", "on Lamp", "open abcdefghi",
            "dark 5", "draws main", "sum", "sum lamp lamp", "through", "row", "row main main", "board 5", "map", "map main 5",
            "least 5", "change", "change dark", "change on", "change on lamp lamp", "change move lamp", "change load lamp",
            "change load lamp 5 5", "change load lamp 5 1:01", "change guard main 0", "change guard main 0 0 5",
            "change guard main 0 0 5:5:5", "change guard main 0 0 5:" + "1" * 61, "change fault main 5", "dark\n", "dark\tdark",
            ["dark"], ("go", 5), b"dark", 5)
        self.assert_answers(desk, "draws", "main=5 kitchen=0 attic=0", "board", LINE, "dark", "-", "sum lamp", "0")

    def test_ahead_of_all_else(self):
        desk = Desk(TEXT, 500)
        desk.say("go 9")
        desk.say("change load lamp 100")
        self.assert_refused(desk, NoRow, "go 5 ", "go 05", "fault nobody 05", "on Nobody", "open lamps,fan", "sum nobodyatall",
                            "through nobody 5", "row Nobody", "map nobody ", "least ", "change on nobodyatall",
                            "change guard nobody 0 0 5:05", "change load nobody 5 0", "change guard main 0 0 5:5 5:5 5")
        self.assert_refused(desk, NoTurn, "go 5")
        self.assert_refused(desk, NoDeed, "fault nobody 5", "on nobody", "change on nobody")


class Desks(DeskCase):
    def test_no_text(self):
        for thing in ODD_THINGS + (TEXT + "\n", TEXT + " ", TEXT.replace("on 5", "ON 5"), LINE, TEXT.encode(), [TEXT], (TEXT,)):
            with self.assertRaises(NoText):
                Desk(thing, 500)
        for text, line in (("", 0), (TEXT + "\n", 6), (TEXT.replace("attic main", "attic mains"), 2), (None, 0),
                           (TEXT.replace("load fan attic", "load fan attics"), 5)):
            with self.assertRaises(NoText) as caught:
                Desk(text, 500)
            self.assertEqual(caught.exception.line, line)

    def test_a_board_that_is_not_quiet(self):
        desk = Desk(TEXT.replace("on 5", "on 100"), 500)
        self.assert_answers(desk, "row main", "100 awake main", "go 50", "21:main", "dark", "lamp")
        self.assert_refused(desk, Loud, "map main", "least")

    def test_two_desks_side_by_side(self):
        one, other = Desk(TEXT, 500), Desk(TEXT, 294)
        self.assert_answers(one, "on stove", "ok", "change on fan", "main kitchen attic fan", "go 3", "-")
        self.assert_answers(other, "draws", "main=5 kitchen=0 attic=0", "board", LINE, "go 1", "-", "sum lamp", "5",
                            "row kitchen", "0 parted")
        self.assert_answers(one, "sum lamp", "15", "sum stove", "165", "row kitchen", "0 not 288 main,kitchen")

    def test_most(self):
        self.assert_answers(Desk(TEXT, GREATEST), "map kitchen", f"1-39 - / 40-294 9:kitchen / 295-{GREATEST} 9:main,kitchen")
        self.assert_answers(Desk(TEXT, 295), "row kitchen", "0 not 295 main,kitchen", "map attic", "1-29 - / 30-295 3:attic")


if __name__ == "__main__":
    unittest.main()
