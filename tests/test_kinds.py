"""Point 2: what a number is, that a truth is none, and what a name is."""

import unittest

from fuseboard.kinds import is_name, is_number, is_whole


class Numbers(unittest.TestCase):
    def test_whole_numbers_from_0_on_of_at_most_sixty_figures(self):
        for thing in (0, 1, 2, 10 ** 59, 10 ** 60 - 1):
            self.assertIs(is_number(thing), True)

    def test_other_whole_numbers(self):
        for thing in (-1, -10 ** 59, -10 ** 70, 10 ** 60, 10 ** 60 + 1, 10 ** 5000):
            self.assertIs(is_number(thing), False)

    def test_truths(self):
        self.assertIs(is_number(True), False)
        self.assertIs(is_number(False), False)

    def test_things_of_other_kinds(self):
        for thing in (None, "", "1", b"1", 1.0, 1j, (), (1,), [], [1], {}, {1: 1}, {1}, object(), int):
            self.assertIs(is_number(thing), False)


class WholeNumbers(unittest.TestCase):
    def test_of_any_size(self):
        for thing in (0, 1, -1, 10 ** 60, -10 ** 70, 10 ** 5000):
            self.assertIs(is_whole(thing), True)

    def test_other_things(self):
        for thing in (True, False, None, "", "1", b"1", 1.0, 1j, (), (1,), [], [1], {}, {1: 1}, {1}, object(), int):
            self.assertIs(is_whole(thing), False)


class Names(unittest.TestCase):
    def test_one_to_eight_small_letters(self):
        for thing in ("a", "z", "m", "az", "abcdefgh", "stuvwxyz", "zzzzzzzz"):
            self.assertIs(is_name(thing), True)

    def test_other_texts(self):
        for thing in ("", "abcdefghi", "a" * 10000, "A", "aZ", "a1", "1", "-", "a b", " a", "a ", "a\n", "`", "{",
                      "\u00e9", "\u00df", "\u0430", "\uff41", "_"):
            self.assertIs(is_name(thing), False)

    def test_things_of_other_kinds(self):
        for thing in (None, True, False, 0, 1, 10 ** 5000, b"a", 1.0, (), ("a",), [], ["a"], {}, {"a": 1}, {"a"}, str):
            self.assertIs(is_name(thing), False)


if __name__ == "__main__":
    unittest.main()
