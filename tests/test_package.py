"""The form of the package: its files, and what stands in which of them."""

import ast
import importlib
import inspect
import unittest
from pathlib import Path

import cutfolds

FOLDER = Path(cutfolds.__file__).parent
INTERFACE = {
    "errors": [
        "InvalidTree", "InvalidMarks", "InvalidSizes", "InvalidValues", "InvalidPlaces", "InvalidSigns",
        "InvalidNumber", "InvalidFactor", "InvalidModulus", "InvalidLetters", "InvalidText", "InvalidTail",
        "InvalidRing", "UnequalLeaves", "UnlikeMarks", "Stuck", "Unfinished", "NoJoining", "NoPart", "NoStep",
        "NothingToUndo",
    ],
    "trees": ["parts", "put_together", "height", "mirrored", "left_fold", "all_trees"],
    "operations": ["cycle_of_factor", "cycle_of_letters", "weights", "fold_numbers", "fold_texts", "fold_with"],
    "marks": ["mark", "marks_of", "fold_marks", "are_alike", "parting_leaf", "parting_size"],
    "joinings": [
        "can_finish", "joinings", "safe_joinings", "joined", "are_safe_at_once", "least_tree", "greatest_tree",
    ],
    "lattices": ["Shape"],
    "counts": [
        "count_trees", "count_alike", "count_orders", "count_classes", "classes", "tree_number", "numbered_tree",
    ],
    "pieces": ["cut_tree", "is_safe", "even_cutting", "count_cuttings"],
    "rounds": ["fewest_rounds", "most_values", "least_height", "flat_tree"],
    "signs": [
        "signs_of", "agree_in_signs", "count_sign_rows", "can_finish_signs", "sign_joinings", "safe_sign_joinings",
        "joined_signs", "tree_with_signs",
    ],
    "machines": ["Machine"],
    "text": ["format_tree", "parse_tree"],
}
ARGUMENTS = {
    "parts": ["tree"],
    "put_together": ["left", "right"],
    "height": ["tree"],
    "mirrored": ["tree"],
    "left_fold": ["number"],
    "all_trees": ["number"],
    "cycle_of_factor": ["factor", "modulus"],
    "cycle_of_letters": ["letters"],
    "weights": ["tree", "factor", "modulus"],
    "fold_numbers": ["tree", "factor", "modulus", "values"],
    "fold_texts": ["tree", "letters", "values"],
    "fold_with": ["tree", "turn", "join", "values"],
    "mark": ["depth", "tail", "ring"],
    "marks_of": ["tree", "tail", "ring"],
    "fold_marks": ["number", "tail", "ring"],
    "are_alike": ["tree", "other", "tail", "ring"],
    "parting_leaf": ["tree", "other", "tail", "ring"],
    "parting_size": ["tail", "ring", "other_tail", "other_ring"],
    "can_finish": ["marks", "tail", "ring"],
    "joinings": ["marks", "tail", "ring"],
    "safe_joinings": ["marks", "tail", "ring"],
    "joined": ["marks", "tail", "ring", "place"],
    "are_safe_at_once": ["marks", "tail", "ring", "places"],
    "least_tree": ["marks", "tail", "ring"],
    "greatest_tree": ["marks", "tail", "ring"],
    "Shape": ["tree", "tail", "ring"],
    "count_trees": ["number"],
    "count_alike": ["marks", "tail", "ring"],
    "count_orders": ["marks", "tail", "ring"],
    "count_classes": ["number", "tail", "ring"],
    "classes": ["number", "tail", "ring"],
    "tree_number": ["tree", "tail", "ring"],
    "numbered_tree": ["marks", "tail", "ring", "number"],
    "cut_tree": ["sizes"],
    "is_safe": ["sizes", "tail", "ring"],
    "even_cutting": ["number", "pieces", "tail", "ring"],
    "count_cuttings": ["number", "pieces", "tail", "ring"],
    "fewest_rounds": ["number", "tail", "ring"],
    "most_values": ["rounds", "tail", "ring"],
    "least_height": ["marks", "tail", "ring"],
    "flat_tree": ["marks", "tail", "ring"],
    "signs_of": ["tree"],
    "agree_in_signs": ["tree", "other"],
    "count_sign_rows": ["number"],
    "can_finish_signs": ["signs"],
    "sign_joinings": ["signs"],
    "safe_sign_joinings": ["signs"],
    "joined_signs": ["signs", "place"],
    "tree_with_signs": ["signs"],
    "Machine": ["turn", "join", "values", "*tail", "*ring", "*marks=None"],
    "format_tree": ["tree"],
    "parse_tree": ["text"],
}
# For each class what stands in its own body, with the arguments of the methods that are called by name.
METHODS = {
    "Shape": {
        "height": [], "is_below": ["other"], "way_to": ["other"], "steps": [], "after": ["leaf", "up"],
        "__len__": [], "__eq__": None, "__and__": None, "__or__": None, "__iand__": None, "__ior__": None,
        "__sub__": None, "tree": None, "marks": None,
    },
    "Machine": {
        "safe_places": [], "join": ["place"], "run": [], "finish": [], "followed_by": ["other"], "undo": [],
        "__len__": [], "__getitem__": None, "__iadd__": None, "results": None, "marks": None, "spans": None,
        "result": None,
    },
}
PROPERTIES = {"Shape": ["tree", "marks"], "Machine": ["results", "marks", "spans", "result"]}


class Files(unittest.TestCase):

    def test_only_python_files(self):
        others = [
            path.name for path in FOLDER.rglob("*")
            if "__pycache__" not in path.parts and not (path.is_dir() or path.suffix == ".py")
        ]
        self.assertEqual(others, [])
        self.assertTrue((FOLDER / "__init__.py").is_file())

    def test_no_tests_in_the_package(self):
        self.assertEqual([path.name for path in FOLDER.rglob("test*")], [])

    def test_each_thing_is_defined_where_the_interface_lists_it(self):
        for name, listed in INTERFACE.items():
            rows = ast.parse((FOLDER / f"{name}.py").read_text(encoding="utf-8")).body
            defined = [row.name for row in rows if isinstance(row, (ast.FunctionDef, ast.ClassDef))]
            module = importlib.import_module(f"cutfolds.{name}")
            for thing in listed:
                with self.subTest(name, thing=thing):
                    self.assertEqual(defined.count(thing), 1)
                    self.assertEqual(getattr(module, thing).__module__, f"cutfolds.{name}")

    def test_names_of_arguments(self):
        for name, listed in INTERFACE.items():
            module = importlib.import_module(f"cutfolds.{name}")
            for thing in listed:
                if name != "errors":
                    with self.subTest(name, thing=thing):
                        self.check_arguments(inspect.signature(getattr(module, thing)), ARGUMENTS[thing])

    def check_arguments(self, signature, names):
        arguments = signature.parameters.values()
        self.assertEqual([self.told(argument) for argument in arguments], names)

    def told(self, argument):
        """The name of an argument, with a star if it stands behind one, and with its default value."""
        self.assertIn(argument.kind, (argument.POSITIONAL_OR_KEYWORD, argument.KEYWORD_ONLY))
        star = "*" if argument.kind == argument.KEYWORD_ONLY else ""
        default = "" if argument.default is argument.empty else f"={argument.default!r}"
        return star + argument.name + default

    def test_methods_stand_in_their_own_class(self):
        for name, module in self.classes():
            body = vars(getattr(module, name))
            for method, arguments in METHODS[name].items():
                with self.subTest(name, method=method):
                    self.assertIn(method, body)
                    self.assertIs(isinstance(body[method], property), method in PROPERTIES[name])
                    if arguments is not None:
                        self.check_arguments(inspect.signature(body[method]), ["self"] + arguments)

    def classes(self):
        return [
            (thing, importlib.import_module(f"cutfolds.{name}"))
            for name, listed in INTERFACE.items() for thing in listed if thing in METHODS
        ]


if __name__ == "__main__":
    unittest.main()
