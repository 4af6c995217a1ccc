"""The interface: each name that it lists is there, takes what it lists, and stands in its class itself."""

import importlib
import inspect
import unittest

FUNCTIONS = {
    "curves": {"is_curve": "thing", "least_of": "curve", "met": "curve draw", "turns_at": "curve draw"},
    "boards": {"looked": "thing", "guards_of": "board", "loads_of": "board", "over": "board place", "kids": "board guard",
               "behind": "board guard"},
    "texts": {"show_board": "board", "read_board": "text"},
    "draws": {"fed": "board opened place", "draws": "board opened pulls", "rest": "board", "awake": "board found",
              "held": "board found guard", "loud": "board"},
    "events": {"looked_events": "board events", "openings_of": "board stuck events upto"},
    "papers": {"paper_of": "board stuck events upto"},
    "looker": {"lets_by": "board stuck events upto thing"},
    "maps": {"opening_of": "board place greatness stuck=None", "map_of": "board place most stuck=None",
             "lets_through": "board place most stuck=None"},
    "parting": {"parted": "board most stuck=None", "backed": "board most"},
    "pairs": {"pairs_of": "board most", "blind": "board most"},
    "delays": {"least_delays": "board most", "needs": "board most", "with_delays": "board delays"},
}
CLASSES = {
    "counts": ("Counts", "curve", {"turns": "draw many", "told": "", "clear": "", "full": "more", "until": "draw more"}),
    "runs": ("Run", "board stuck=None", {"turn": "", "do": "deed", "go": "turn", "openings": "", "closed": "", "dark": "",
                                         "draws": "", "through": "guard", "drawn": "place", "darkness": "load"}),
    "keeper": ("Keeper", "board most", {"board": "", "rows": "", "change": "deed"}),
    "desk": ("Desk", "text most", {"say": "row"}),
}


def arguments(thing):
    """The arguments of a function, without the object of a method."""
    names = [str(part) for part in inspect.signature(thing).parameters.values()]
    return " ".join(name for name in names if name != "self")


class Interface(unittest.TestCase):
    def test_functions(self):
        for module, functions in FUNCTIONS.items():
            for name, told in functions.items():
                self.assertEqual(arguments(getattr(importlib.import_module(f"fuseboard.{module}"), name)), told, name)

    def test_classes_and_their_own_methods(self):
        for module, (name, made_of, methods) in CLASSES.items():
            kind = getattr(importlib.import_module(f"fuseboard.{module}"), name)
            self.assertEqual(arguments(kind), made_of, name)
            for method, told in methods.items():
                self.assertIn(method, vars(kind), name)
                self.assertEqual(arguments(getattr(kind, method)), told, (name, method))


if __name__ == "__main__":
    unittest.main()
