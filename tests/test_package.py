"""The form of the package: its files, and what stands in which of them."""

import ast
import importlib
import inspect
import unittest
from pathlib import Path

import cutfolds

FOLDER = Path(cutfolds.__file__).parent
INTERFACE = {
    "errors": [
        "InvalidTree", "InvalidMarks", "InvalidSizes", "InvalidValues", "InvalidPlaces", "InvalidSigns",
        "InvalidNumber", "InvalidFactor", "InvalidModulus", "InvalidLetters", "InvalidText", "InvalidTail",
        "InvalidRing", "UnequalLeaves", "UnlikeMarks", "Stuck", "Unfinished", "NoJoining", "NoPart", "NoStep",
        "NothingToUndo",
    ],
    "trees": ["parts", "put_together", "height", "mirrored", "left_fold", "all_trees"],
    "operations": ["cycle_of_factor", "cycle_of_letters", "weights", "fold_numbers", "fold_texts", "fold_with"],
    "marks": ["mark", "marks_of", "fold_marks", "are_alike", "parting_leaf", "parting_size"],
}
ARGUMENTS = {
    "parts": ["tree"],
    "put_together": ["left", "right"],
    "height": ["tree"],
    "mirrored": ["tree"],
    "left_fold": ["number"],
    "all_trees": ["number"],
    "cycle_of_factor": ["factor", "modulus"],
    "cycle_of_letters": ["letters"],
    "weights": ["tree", "factor", "modulus"],
    "fold_numbers": ["tree", "factor", "modulus", "values"],
    "fold_texts": ["tree", "letters", "values"],
    "fold_with": ["tree", "turn", "join", "values"],
    "mark": ["depth", "tail", "ring"],
    "marks_of": ["tree", "tail", "ring"],
    "fold_marks": ["number", "tail", "ring"],
    "are_alike": ["tree", "other", "tail", "ring"],
    "parting_leaf": ["tree", "other", "tail", "ring"],
    "parting_size": ["tail", "ring", "other_tail", "other_ring"],
}


class Files(unittest.TestCase):

    def test_only_python_files(self):
        others = [
            path.name for path in FOLDER.rglob("*")
            if "__pycache__" not in path.parts and not (path.is_dir() or path.suffix == ".py")
        ]
        self.assertEqual(others, [])
        self.assertTrue((FOLDER / "__init__.py").is_file())

    def test_no_tests_in_the_package(self):
        self.assertEqual([path.name for path in FOLDER.rglob("test*")], [])

    def test_each_thing_is_defined_where_the_interface_lists_it(self):
        for name, listed in INTERFACE.items():
            rows = ast.parse((FOLDER / f"{name}.py").read_text(encoding="utf-8")).body
            defined = [row.name for row in rows if isinstance(row, (ast.FunctionDef, ast.ClassDef))]
            module = importlib.import_module(f"cutfolds.{name}")
            for thing in listed:
                with self.subTest(name, thing=thing):
                    self.assertEqual(defined.count(thing), 1)
                    self.assertEqual(getattr(module, thing).__module__, f"cutfolds.{name}")

    def test_names_of_arguments(self):
        for name in ("trees", "operations", "marks"):
            module = importlib.import_module(f"cutfolds.{name}")
            for thing in INTERFACE[name]:
                with self.subTest(name, thing=thing):
                    arguments = inspect.signature(getattr(module, thing)).parameters.values()
                    self.assertEqual([argument.name for argument in arguments], ARGUMENTS[thing])
                    for argument in arguments:
                        self.assertIs(argument.kind, argument.POSITIONAL_OR_KEYWORD)
                        self.assertIs(argument.default, argument.empty)


if __name__ == "__main__":
    unittest.main()
