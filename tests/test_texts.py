"""Point 10: a board written as lines and read back; all else refused with the first line that can't stand there."""

import random
import re
import unittest

from fuseboard.boards import looked
from fuseboard.errors import NoBoard, NoText
from fuseboard.texts import read_board, show_board
from tests import plain
from tests.plain import GREATEST, HOUSE, ODD_THINGS, TOO_GREAT, TOP, chain

HOUSE_TEXT = """\
guard main - 6 7 100:40 200:10 400:1
guard up main 3 4 50:20 100:5
guard down main 0 2 40:15
guard attic up 0 0 10:8 30:2
guard spare - 1 0 5:3
guard kitchen down 0 0 20:4
guard empty up 2 2 7:7
load lamp attic on 2
load motor kitchen on 5 2:18 3:9
load stove kitchen off 11
load bell main on 1 1:0
load heater spare off 3 4:4
load fan up on 2 1:3 1:3 2:0"""

NUMBER = r"(0|[1-9][0-9]{0,59})"
NAME = r"([a-z]{1,8})"
GUARD = re.compile(rf"guard {NAME} (-|[a-z]{{1,8}}) {NUMBER} {NUMBER}((?: {NUMBER}:{NUMBER})+)")
LOAD = re.compile(rf"load {NAME} {NAME} (on|off) {NUMBER}((?: {NUMBER}:{NUMBER})*)")


def pairs(words):
    return tuple(tuple(int(number) for number in word.split(":")) for word in words.split())


def is_text(lines):
    """Whether lines are a board's, by a pattern of the whole line and by looked."""
    guards, loads = [], []
    for line in lines:
        guard, load = GUARD.fullmatch(line), LOAD.fullmatch(line)
        if guard and not loads:
            name, under, delay, wait, steps = guard.groups()[:5]
            guards.append((name, None if under == "-" else under, pairs(steps), int(delay), int(wait)))
        elif load:
            name, at, switch, last, stretches = load.groups()[:5]
            loads.append((name, at, pairs(stretches), int(last), switch == "on"))
        else:
            return False
    try:
        return looked((tuple(guards), tuple(loads)))
    except NoBoard:
        return False


class TextCase(unittest.TestCase):
    def assert_none(self, thing, line):
        with self.assertRaises(NoText) as caught:
            read_board(thing)
        self.assertEqual(caught.exception.line, line)
        self.assertIs(type(caught.exception.line), int)

    def assert_line(self, at, line, ahead=HOUSE_TEXT):
        """A line in place of the one at this place is the first wrong one."""
        lines = ahead.split("\n")
        lines[at] = line
        self.assert_none("\n".join(lines), at)

    def assert_same(self, board, text):
        self.assertEqual(show_board(board), text)
        told = read_board(text)
        self.assertEqual(told, board)
        self.assertIs(looked(told), True)


class Written(TextCase):
    def test_word_by_word(self):
        self.assert_same(HOUSE, HOUSE_TEXT)

    def test_the_least_board(self):
        self.assert_same(((("a", None, ((1, 1),), 0, 0),), ()), "guard a - 0 0 1:1")

    def test_edges(self):
        self.assert_same(((("abcdefgh", None, ((1, GREATEST), (GREATEST, 1)), GREATEST, GREATEST),),
                          (("z", "abcdefgh", ((GREATEST, GREATEST), (1, 0)), GREATEST, False),)),
                         f"guard abcdefgh - {GREATEST} {GREATEST} 1:{GREATEST} {GREATEST}:1\n"
                         f"load z abcdefgh off {GREATEST} {GREATEST}:{GREATEST} 1:0")

    def test_names_like_words(self):
        self.assert_same(((("guard", None, ((1, 1),), 0, 0), ("on", "guard", ((1, 1),), 0, 0)),
                          (("load", "guard", (), 0, True), ("off", "on", (), 10, False))),
                         "guard guard - 0 0 1:1\nguard on guard 0 0 1:1\nload load guard on 0\nload off on off 10")

    def test_five_steps_four_stretches_seven_over(self):
        self.assert_same((chain(8, ((1, 9), (2, 8), (3, 7), (40, 6), (50, 1))), ()),
                         "\n".join(f"guard {name} {under} 0 0 1:9 2:8 3:7 40:6 50:1"
                                   for name, under in zip("abcdefgh", "-abcdefg")))
        self.assert_same(((TOP,), (("x", "main", ((1, 2), (3, 4), (5, 6), (7, 8)), 9, True),)),
                         HOUSE_TEXT.split("\n")[0] + "\nload x main on 9 1:2 3:4 5:6 7:8")

    def test_sixteen_guards_and_twenty_four_loads(self):
        letters = "abcdefghijklmnopqrstuvwx"
        board = (tuple((letter, None, ((1, 1),), 0, 0) for letter in letters[:16]),
                 tuple(("l" + letter, "p", (), 0, True) for letter in letters))
        text = "\n".join([f"guard {letter} - 0 0 1:1" for letter in letters[:16]]
                         + [f"load l{letter} p on 0" for letter in letters])
        self.assert_same(board, text)
        self.assert_none(text + "\nload x p on 0", 40)
        self.assert_none(text + "\nguard x - 0 0 1:1", 40)
        lines = text.split("\n")
        self.assert_none("\n".join(lines[:16] + ["guard x - 0 0 1:1"]), 16)
        self.assert_none("\n".join(lines[:16] + ["guard x - 0 0 1:1"] + lines[16:]), 16)

    def test_many_boards_there_and_back(self):
        rng = random.Random(3)
        for _ in range(300):
            board = plain.small_board(rng, 7, 24, 1000)
            text = show_board(board)
            self.assertTrue(is_text(text.split("\n")))
            self.assertEqual(read_board(text), board)
            self.assertEqual(show_board(read_board(text)), text)

    def test_each_beginning_is_a_board(self):
        lines = HOUSE_TEXT.split("\n")
        for many in range(1, len(lines) + 1):
            text = "\n".join(lines[:many])
            self.assertEqual(show_board(read_board(text)), text)

    def test_kinds_of_answers(self):
        self.assertIs(type(show_board(HOUSE)), str)
        guards, loads = read_board(HOUSE_TEXT)
        for thing in (guards, loads, guards[0], guards[0][2], guards[0][2][0], loads[1], loads[1][2], loads[1][2][0]):
            self.assertIs(type(thing), tuple)
        self.assertIs(guards[0][1], None)
        self.assertIs(loads[0][4], True)
        self.assertIs(loads[2][4], False)


class NoTexts(TextCase):
    def test_what_is_no_text(self):
        for thing in ODD_THINGS + (HOUSE, HOUSE_TEXT.encode(), [HOUSE_TEXT], HOUSE_TEXT.split("\n"), (HOUSE_TEXT,)):
            self.assert_none(thing, 0)

    def test_texts_that_begin_no_board(self):
        for text in ("", " ", "\n", "\n\n", "guard", "load", "x", "-", "guard a", "\n" + HOUSE_TEXT, " " + HOUSE_TEXT,
                     "\ufeff" + HOUSE_TEXT, "load lamp main on 2", "load lamp main on 2\n" + HOUSE_TEXT,
                     "guard a a 0 0 1:1", "guard a b 0 0 1:1\nguard b - 0 0 1:1"):
            self.assert_none(text, 0)

    def test_a_line_end_at_the_end_and_lines_without_signs(self):
        lines = HOUSE_TEXT.split("\n")
        self.assert_none(HOUSE_TEXT + "\n", 13)
        self.assert_none(HOUSE_TEXT + "\n\n", 13)
        for at in range(len(lines) + 1):
            self.assert_none("\n".join(lines[:at] + [""] + lines[at:]), at)

    def test_other_line_ends(self):
        for end in ("\r\n", "\r", "\u2028", "\x0b", "\x0c", "\x85", " / ", ";", " \n", "\t"):
            self.assert_none(HOUSE_TEXT.replace("\n", end), 0)
            self.assert_none(HOUSE_TEXT + end, 12)
        self.assert_none(HOUSE_TEXT.replace("\n", "\n\n"), 1)
        self.assert_none(HOUSE_TEXT.replace("\n", "\n "), 1)

    def test_a_line_twice(self):
        lines = HOUSE_TEXT.split("\n")
        for at, line in enumerate(lines):
            for to in range(at + 1, len(lines) + 1):
                self.assert_none("\n".join(lines[:to] + [line] + lines[to:]), to)

    def test_a_line_gone(self):
        lines = HOUSE_TEXT.split("\n")
        for gone, wrong in ((0, 0), (1, 2), (2, 4), (3, 6), (4, 10), (5, 7)):
            self.assert_none("\n".join(lines[:gone] + lines[gone + 1:]), wrong)
        for gone in range(6, 13):
            text = "\n".join(lines[:gone] + lines[gone + 1:])
            self.assertEqual(show_board(read_board(text)), text)

    def test_a_load_ahead_of_a_guard(self):
        lines = HOUSE_TEXT.split("\n")
        for at in range(1, 7):
            self.assert_none("\n".join(lines[:at] + ["load x main on 1"] + lines[at:]), at + 1)
        self.assert_none(HOUSE_TEXT + "\nguard x main 0 0 1:1", 13)

    def test_too_deep(self):
        lines = show_board((chain(8), ())).split("\n")
        self.assert_none("\n".join(lines + ["guard i h 0 0 1:1"]), 8)
        self.assert_none("\n".join(lines + ["guard i g 0 0 1:1", "guard j h 0 0 1:1"]), 9)

    def test_other_names(self):
        for name in ("", "A", "Main", "abcdefghi", "a1", "-", "a-b", "a,b", "\u00e9", "\u0430", "a\t", "None"):
            self.assert_line(1, f"guard {name} main 3 4 50:20")
            self.assert_line(1, f"guard up {name} 3 4 50:20" if name != "-" else "guard up -- 3 4 50:20")
            self.assert_line(7, f"load {name} attic on 2")
            self.assert_line(7, f"load lamp {name} on 2")
        self.assert_line(1, "guard main main 3 4 50:20")
        self.assert_line(1, "guard up up 3 4 50:20")
        self.assert_line(1, "guard up down 3 4 50:20")
        self.assert_line(1, "guard up lamp 3 4 50:20")
        self.assert_line(7, "load main attic on 2")
        self.assert_line(8, "load lamp attic on 2")
        self.assert_line(8, "load motor lamp on 2")

    def test_other_numbers(self):
        wrong = ("", "00", "01", "007", "+1", "-1", "-0", "1.0", "1e3", "1_0", "0x1", " 1", "1 ", "one", "True", "None",
                 "\u0661", "\u00b2", "1,0", str(TOO_GREAT), "1" * 61, "0" * 61, "9" * 100000, "0" + str(GREATEST))
        for number in wrong:
            for line in (f"guard up main {number} 4 50:20", f"guard up main 3 {number} 50:20",
                         f"guard up main 3 4 {number}:20", f"guard up main 3 4 50:{number}",
                         f"guard up main 3 4 50:20 {number}:5", f"guard up main 3 4 50:20 100:{number}"):
                self.assert_line(1, line)
            for line in (f"load lamp attic on {number}", f"load lamp attic on 2 {number}:20",
                         f"load lamp attic on 2 50:{number}", f"load lamp attic on 2 1:1 50:{number}"):
                self.assert_line(7, line)

    def test_other_curves_and_courses(self):
        for steps in ("", " ", " 0:1", " 1:0", " 1:1 1:1", " 2:2 1:1", " 1:1 2:2", " 1:6 2:5 3:4 4:3 5:2 6:1", " 1", " :",
                      " 1:", " :1", " 1:1:1", " 1:1:", " 1;1", " 1 :1", " 1: 1", " 1:2,2:1", "  1:1", " 1:1 ", " 1::1"):
            self.assert_line(1, f"guard up main 3 4{steps}")
        for stretches in (" ", " 0:1", " 1:1 0:1", " 1:1 1:1 1:1 1:1 1:1", " 1", " :", " 1:", " :1", " 1:1:1", " 1;1",
                          "  1:1", " 1:1 ", " 1:1  1:1", " -"):
            self.assert_line(7, f"load lamp attic on 2{stretches}")

    def test_other_switches_and_words(self):
        for switch in ("", "On", "ON", "true", "True", "1", "0", "-", "on ", " on", "onoff", "off,"):
            self.assert_line(7, f"load lamp attic {switch} 2")
        for word in ("", "Guard", "GUARD", "guards", "load", "guar", "#guard", "guard "):
            self.assert_line(1, f"{word} up main 3 4 50:20 100:5")
        for word in ("", "Load", "LOAD", "loads", "guard", "loa", "#load", "load "):
            self.assert_line(7, f"{word} lamp attic on 2")

    def test_a_word_gone_or_twice_blanks_and_tabs(self):
        lines = HOUSE_TEXT.split("\n")
        for at, line in enumerate(lines):
            words = line.split(" ")
            for place in range(5):
                self.assert_line(at, " ".join(words[:place] + words[place + 1:]))
            for place in range(4):
                self.assert_line(at, " ".join(words[:place + 1] + words[place:]))
            for place in range(1, len(words)):
                self.assert_line(at, " ".join(words[:place]) + "  " + " ".join(words[place:]))
                self.assert_line(at, " ".join(words[:place]) + "\t" + " ".join(words[place:]))
            for bent in (" " + line, line + " ", "\t" + line, line + "\t", line + "\r", line.upper(), line + " x",
                         line + " 5", line + " -", line + "\u00a0"):
                self.assert_line(at, bent)


class BentByChance(TextCase):
    def assert_as_by_pattern(self, text):
        lines = text.split("\n")
        for at in range(len(lines)):
            if not is_text(lines[:at + 1]):
                self.assert_none(text, at)
                return
        self.assertEqual(show_board(read_board(text)), text)

    def test_signs_gone_more_and_others(self):
        rng = random.Random(4)
        for _ in range(3000):
            text = HOUSE_TEXT
            for _ in range(rng.randint(1, 2)):
                at = rng.randrange(len(text))
                text = text[:at] + rng.choice(("", rng.choice("0123456789:- \nagx+"))) + text[at + rng.randint(0, 1):]
            self.assert_as_by_pattern(text)

    def test_lines_moved(self):
        rng = random.Random(5)
        for _ in range(2000):
            lines = HOUSE_TEXT.split("\n")
            for _ in range(rng.randint(1, 2)):
                line = lines.pop(rng.randrange(len(lines)))
                lines.insert(rng.randrange(len(lines) + 1), line)
            self.assert_as_by_pattern("\n".join(lines))

    def test_words_moved(self):
        rng = random.Random(6)
        for _ in range(2000):
            lines = [line.split(" ") for line in HOUSE_TEXT.split("\n")]
            word = rng.choice(rng.choice(lines))
            row = rng.choice(lines)
            row[rng.randrange(len(row))] = word
            self.assert_as_by_pattern("\n".join(" ".join(row) for row in lines))


if __name__ == "__main__":
    unittest.main()
