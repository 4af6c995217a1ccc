"""The refusals: their fields, and which class is under which."""

import copy
import unittest

from fuseboard.errors import (
    BoardError, Blind, Loud, NoBoard, NoDeed, NoEvent, NoPlace, NoRow, NoText, NoTurn,
)

FIELDS = (
    (NoBoard, ("word", "number")),
    (NoText, ("line",)),
    (NoEvent, ("number",)),
    (Loud, ("guard",)),
    (Blind, ("lower", "upper", "greatness")),
)
TEXTS = (NoPlace, NoDeed, NoTurn, NoRow)
KINDS = tuple(kind for kind, names in FIELDS) + TEXTS

THINGS = (
    0, 1, -1, 10 ** 60, 10 ** 5000, True, False, None, "", "guard", "50% of {x}", b"x", 1.5,
    (), (1, 2), [], [1, [2]], {}, {"a": 1}, {1, 2}, ValueError("x"), object(), len,
)


def made(kind):
    """An error of each kind, of ordinary fields."""
    for known, names in FIELDS:
        if known is kind:
            return kind(*names)
    return kind("some words")


class Fields(unittest.TestCase):
    def test_ordinary_fields(self):
        error = NoBoard("guard", 3)
        self.assertEqual((error.word, error.number), ("guard", 3))
        self.assertEqual(NoText(7).line, 7)
        self.assertEqual(NoEvent(199).number, 199)
        self.assertEqual(Loud("main").guard, "main")
        error = Blind("low", "top", 10 ** 59)
        self.assertEqual((error.lower, error.upper, error.greatness), ("low", "top", 10 ** 59))

    def test_fields_in_their_order_whatever_things_they_are(self):
        for kind, names in FIELDS:
            for at in range(len(THINGS)):
                things = [THINGS[(at + more) % len(THINGS)] for more in range(len(names))]
                error = kind(*things)
                for name, thing in zip(names, things):
                    self.assertIs(getattr(error, name), thing)

    def test_fields_by_their_names(self):
        for kind, names in FIELDS:
            error = kind(**{name: "of " + name for name in names})
            for name in names:
                self.assertEqual(getattr(error, name), "of " + name)

    def test_no_fewer_and_no_more_fields(self):
        for kind, names in FIELDS:
            self.assertRaises(TypeError, kind, *names[1:])
            self.assertRaises(TypeError, kind, *names, "more")

    def test_two_errors_do_not_mix(self):
        one, two = NoText(1), NoText(2)
        self.assertEqual((one.line, two.line), (1, 2))

    def test_a_copy_has_the_same_fields(self):
        for kind, names in FIELDS:
            twin = copy.copy(kind(*names))
            self.assertEqual([getattr(twin, name) for name in names], list(names))

    def test_made_of_whatever_text(self):
        for kind in TEXTS:
            for text in ("", "x", "no such place", "50% of {x}", "a\nb", "\u00e9\U0001f600", "y" * 10000):
                self.assertEqual(str(kind(text)), text)


class Classes(unittest.TestCase):
    def test_the_base_is_a_value_error(self):
        self.assertTrue(issubclass(BoardError, ValueError))

    def test_each_stands_under_the_base_alone(self):
        for kind in KINDS:
            self.assertEqual(kind.__bases__, (BoardError,))
            for other in KINDS:
                self.assertEqual(issubclass(kind, other), kind is other)

    def test_each_is_a_board_error_and_a_value_error(self):
        for kind in KINDS:
            error = made(kind)
            self.assertIsInstance(error, BoardError)
            self.assertIsInstance(error, ValueError)
            self.assertNotIsInstance(error, (KeyError, TypeError))

    def test_caught_by_its_own_class_by_the_base_and_by_value_error(self):
        for kind in KINDS:
            for net in (kind, BoardError, ValueError):
                with self.assertRaises(net) as caught:
                    raise made(kind)
                self.assertIs(type(caught.exception), kind)

    def test_not_caught_by_another_class(self):
        for kind in KINDS:
            others = tuple(other for other in KINDS if other is not kind)
            try:
                raise made(kind)
            except others:
                self.fail("caught by another one's class")
            except kind:
                pass


if __name__ == "__main__":
    unittest.main()
