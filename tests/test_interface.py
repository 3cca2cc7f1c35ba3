"""The interface: every name and its arguments stand there, and higher stages draw these names alone from lower ones."""

import ast
import importlib
import inspect
import pathlib
import unittest

PACKAGE = pathlib.Path(__file__).resolve().parent.parent / "sunstore"

INTERFACE = {
    "errors": {
        "StoreError": None, "NoFraction": ["top"], "NoText": ["place"], "NoPrices": ["hour"], "NoKeeper": ["name"],
        "NoLine": ["line"],
    },
    "fractions": {
        "fraction": ["top", "bottom"], "plus": ["one", "other"], "minus": ["one", "other"], "times": ["one", "other"],
        "over": ["one", "other"], "under": ["one", "other"], "written": ["one"], "read_fraction": ["text"],
    },
    "triples": {"added": ["one", "other"], "multiplied": ["one", "by"], "ahead": ["one", "other"]},
    "reading": {"read": ["lines"]},
    "showing": {"shown": ["house"]},
    "ledgers": {"ledger": ["house", "plan"], "faults": ["house", "plan"]},
    "costs": {"costs": ["house", "plan"]},
    "problems": {
        "is_mix": ["rows", "rights", "tops", "mix"], "sum_of": ["costs", "mix"], "rests": ["costs", "rows", "prices"],
        "floor": ["costs", "rows", "rights", "tops", "prices"],
    },
    "solving": {"solved": ["costs", "rows", "rights", "tops", "first"]},
    "best": {"best_plan": ["house"]},
    "floors": {"floor_of": ["house", "prices"]},
    "keepers": {"day_of": ["house", "keeper"]},
    "rules": {"read_keeper": ["lines"], "shown_keeper": ["keeper"]},
    "ranks": {"ranks": ["house", "keepers"]},
    "desk": {"Desk": ["lines"]},
}


class Interface(unittest.TestCase):
    def test_names_and_arguments(self):
        for module, names in INTERFACE.items():
            for name, arguments in names.items():
                with self.subTest(module=module, name=name):
                    told = getattr(importlib.import_module("sunstore." + module), name)
                    if arguments is not None:
                        self.assertEqual(list(inspect.signature(told).parameters), arguments)

    def test_a_desk_s_method(self):
        told = importlib.import_module("sunstore.desk").Desk
        self.assertEqual(list(inspect.signature(told.say).parameters), ["self", "line"])

    def test_each_stage_draws_from_lower_ones_alone(self):
        stages = list(INTERFACE)
        for path in sorted(PACKAGE.glob("*.py")):
            for node in ast.parse(path.read_text(encoding="utf-8")).body:
                if isinstance(node, ast.ImportFrom):
                    self.assertLess(stages.index(node.module.split(".")[1]), stages.index(path.stem), path.name)

    def test_modules_draw_from_others_what_stands_in_the_interface_alone(self):
        for path in sorted(PACKAGE.glob("*.py")):
            for node in ast.parse(path.read_text(encoding="utf-8")).body:
                if isinstance(node, ast.ImportFrom):
                    for alias in node.names:
                        self.assertIn(alias.name, INTERFACE[node.module.split(".")[1]], path.name)


if __name__ == "__main__":
    unittest.main()
