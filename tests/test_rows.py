"""Point 30, of one row: which things are rows, and what they say."""

import random
import re
import unittest

from fuseboard.rows import read_row
from tests.plain import GREATEST, ODD_THINGS

# Each row with what it says.
SAID = {
    "go 0": ("go", 0),
    "go 15": ("go", 15),
    f"go {GREATEST}": ("go", GREATEST),
    "fault main 0": ("fault", "main", 0),
    "fault a 70": ("fault", "a", 70),
    f"fault abcdefgh {GREATEST}": ("fault", "abcdefgh", GREATEST),
    "on lamp": ("on", "lamp"),
    "off lamp": ("off", "lamp"),
    "open main": ("open", "main"),
    "close main": ("close", "main"),
    "dark": ("dark",),
    "draws": ("draws",),
    "sum lamp": ("sum", "lamp"),
    "through main": ("through", "main"),
    "row main": ("row", "main"),
    "board": ("board",),
    "map lamp": ("map", "lamp"),
    "least": ("least",),
    "change on lamp": ("change", ("on", "lamp")),
    "change off lamp": ("change", ("off", "lamp")),
    "change move lamp main": ("change", ("move", "lamp", "main")),
    "change load lamp 5": ("change", ("load", "lamp", (), 5)),
    "change load lamp 0 1:0 20:3": ("change", ("load", "lamp", ((1, 0), (20, 3)), 0)),
    "change load lamp 5 0:0 0:0 0:0 0:0 0:0 0:0": ("change", ("load", "lamp", ((0, 0),) * 6, 5)),
    "change guard main 3 4 10:6 20:2": ("change", ("guard", "main", ((10, 6), (20, 2)), 3, 4)),
    "change guard main 0 0": ("change", ("guard", "main", (), 0, 0)),
    f"change guard main {GREATEST} 1 {GREATEST}:1 1:{GREATEST} 0:0 5:5 5:5 5:5": (
        "change", ("guard", "main", ((GREATEST, 1), (1, GREATEST), (0, 0), (5, 5), (5, 5), (5, 5)), GREATEST, 1)),
    # Names may be words of rows, whether they are there or not.
    "on on": ("on", "on"),
    "sum dark": ("sum", "dark"),
    "change move change load": ("change", ("move", "change", "load")),
    "row nobody": ("row", "nobody"),
}
NAME = "[a-z]{1,8}"
NUMBER = "(0|[1-9][0-9]{0,59})"
ROW = re.compile("|".join((
    f"go {NUMBER}", f"fault {NAME} {NUMBER}", f"(on|off|open|close) {NAME}", "dark", "draws", f"(sum|through) {NAME}",
    f"change (on|off) {NAME}", f"change move {NAME} {NAME}", f"change load {NAME} {NUMBER}( {NUMBER}:{NUMBER})*",
    f"change guard {NAME} {NUMBER} {NUMBER}( {NUMBER}:{NUMBER})*", f"(row|map) {NAME}", "board", "least")))


class ReadRow(unittest.TestCase):
    def assert_judged(self, row):
        self.assertEqual(read_row(row) is not None, ROW.fullmatch(row) is not None, row)

    def test_each_row(self):
        for row, said in SAID.items():
            self.assertEqual(read_row(row), said)
            self.assertIsNotNone(ROW.fullmatch(row))

    def test_things_of_any_kind(self):
        for thing in ODD_THINGS + (["dark"], ("dark",), {"dark": 1}, b"dark", ["go", "5"], ("go", 5), 5):
            self.assertIsNone(read_row(thing))

    def test_other_words(self):
        for row in ("Dark", "DARK", "darks", "dar", "go", "GO 5", "goo 5", "going 5", "change", "change ", "change dark",
                    "change go 5", "change fault main 5", "change open main", "change close main", "change row main",
                    "change change on lamp", "guard main 3 4 10:6", "load lamp on 5", "move lamp main", "stuck main", "turn",
                    "dark?", "openings", "closed", "need", "needs", "blind", "parted", "-", "ok", "/"):
            self.assertIsNone(read_row(row), row)

    def test_words_more_or_less(self):
        for row in SAID:
            words = row.split(" ")
            for at in range(len(words) + 1):
                for word in ("", "a", "main", "5", "0", "1:1", "dark"):
                    self.assert_judged(" ".join(words[:at] + [word] + words[at:]))
            for at in range(len(words)):
                self.assert_judged(" ".join(words[:at] + words[at + 1:]))
            self.assert_judged(row + " " + row)

    def test_blanks(self):
        for row in SAID:
            for other in (" " + row, row + " ", row.replace(" ", "  "), row.replace(" ", "\t"), row + "\n", "\n" + row,
                          row + "\t", row.replace(" ", "\n"), row.replace(" ", "\u00a0"), row + "\r", row.replace(" ", "")):
                if other != row:
                    self.assertIsNone(read_row(other), other)

    def test_numbers(self):
        for word in ("00", "05", "-1", "-0", "+5", "5.0", "1e3", "1_0", "0x5", "five", "", "\u0663", "\u00b2", "5a", "1" * 61,
                     "0" * 60, "1:1", "9" * 5000):
            for row in ("go {}", "fault main {}", "change load lamp {}", "change guard main {} 0 5:5",
                        "change guard main 0 {} 5:5", "change load lamp 5 {}:3", "change load lamp 5 3:{}",
                        "change guard main 0 0 {}:4", "change guard main 0 0 4:{}", "change guard main 0 0 9:9 4:{} 3:3"):
                self.assertIsNone(read_row(row.format(word)), row.format(word))
                self.assertIsNotNone(read_row(row.format("1" * 60)))

    def test_pairs(self):
        for word in ("5", "5:", ":5", ":", "5:5:5", "5;5", "5::5", "5-5", "a:b", "5:5,6:6", "", "(5,5)"):
            self.assertIsNone(read_row(f"change load lamp 5 {word}"))
            self.assertIsNone(read_row(f"change guard main 5 5 {word}"))
            self.assertIsNone(read_row(f"change guard main 5 5 6:6 {word}"))
            self.assertIsNone(read_row(f"change guard main 5 5 {word} 6:6"))

    def test_names(self):
        for word in ("", "abcdefghi", "Lamp", "lamP", "lamp1", "l-a", "-", "\u00e9", "\u0430", "lamp,fan", "5", "lamp\n"):
            for row in ("fault {} 5", "on {}", "off {}", "open {}", "close {}", "sum {}", "through {}", "row {}", "map {}",
                        "change on {}", "change off {}", "change move {} a", "change move a {}", "change load {} 5",
                        "change guard {} 5 5 5:5"):
                self.assertIsNone(read_row(row.format(word)), row.format(word))

    def test_signs_gone_more_and_others(self):
        rng = random.Random(130)
        answers = []
        for _ in range(6000):
            row = rng.choice(list(SAID))
            for _ in range(rng.randint(1, 2)):
                at = rng.randrange(len(row) + 1)
                row = row[:at] + rng.choice(("", rng.choice("ab z019:-A\n "))) + row[at + rng.randint(0, 1):]
            self.assert_judged(row)
            answers.append(read_row(row) is None)
        self.assertGreater(answers.count(True), 1000)
        self.assertGreater(answers.count(False), 1000)


if __name__ == "__main__":
    unittest.main()
