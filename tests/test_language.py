"""The rules of the language that a short look at the files can see; the others need a reader."""

import ast
import builtins
import unittest
from pathlib import Path

import cutfolds

FOLDER = Path(cutfolds.__file__).parent
LIBRARY = {
    "heapq": ["heappush", "heappop", "heapify", "heapreplace", "heappushpop"],
    "math": ["gcd", "lcm", "isqrt", "comb", "perm", "factorial"],
    "itertools": ["product", "combinations", "permutations"],
    "__future__": ["annotations"],
}
BUILTINS = """
    len range enumerate zip min max sum abs sorted reversed int str bool bytes list tuple dict set frozenset
    isinstance ord repr any all divmod iter next super property staticmethod classmethod object float
    Exception ValueError TypeError KeyError IndexError LookupError ZeroDivisionError ArithmeticError
    OverflowError RuntimeError NotImplementedError AttributeError StopIteration NotImplemented
""".split()
METHODS = """
    append clear copy count endswith extend find get index insert isalnum isalpha isdigit islower isspace
    isupper items join keys ljust lower lstrip partition pop remove replace reverse rfind rjust rpartition
    rsplit rstrip setdefault split splitlines startswith strip update upper values zfill bit_length title
    capitalize swapcase casefold center expandtabs removeprefix removesuffix rindex isascii isdecimal
    isnumeric istitle isidentifier isprintable translate maketrans encode decode hex add discard sort
    from_bytes __init__
""".split()
STATEMENTS = (ast.Import, ast.ImportFrom, ast.FunctionDef, ast.ClassDef, ast.Assign, ast.AnnAssign)


def texts():
    return {path.name: path.read_text(encoding="utf-8") for path in sorted(FOLDER.rglob("*.py"))}


def trees():
    return {name: ast.parse(text) for name, text in texts().items()}


def nodes(kinds):
    """The nodes of these kinds in all files, each with a name for messages."""
    return [
        (f"{name}:{getattr(node, 'lineno', 0)}", node)
        for name, tree in trees().items() for node in ast.walk(tree) if isinstance(node, kinds)
    ]


class Language(unittest.TestCase):

    def test_characters_lines_and_sizes(self):
        for name, text in texts().items():
            with self.subTest(name):
                self.assertTrue(all(" " <= sign <= "~" or sign == "\n" for sign in text))
                lines = text.split("\n")
                self.assertTrue(len(lines) <= 400)
                self.assertTrue(all(len(line) <= 120 for line in lines))

    def test_sizes_of_functions(self):
        for where, node in nodes(ast.FunctionDef):
            with self.subTest(where):
                self.assertTrue(node.end_lineno - node.lineno < 40)

    def test_imports(self):
        own = [f"cutfolds.{path.stem}" for path in FOLDER.glob("*.py")]
        for where, node in nodes((ast.Import, ast.ImportFrom)):
            with self.subTest(where):
                self.assertIsInstance(node, ast.ImportFrom)
                self.assertEqual(node.level, 0)
                self.assertTrue(node.module in own or node.module in LIBRARY)
                for alias in node.names:
                    self.assertNotEqual(alias.name, "*")
                    self.assertIn(alias.name, LIBRARY.get(node.module, [alias.name]))

    def test_module_level(self):
        for name, tree in trees().items():
            for at, row in enumerate(tree.body):
                with self.subTest(name, line=row.lineno):
                    docstring = at == 0 and isinstance(row, ast.Expr) and isinstance(row.value, ast.Constant)
                    self.assertTrue(docstring or isinstance(row, STATEMENTS))

    def test_no_floats_and_no_other_statements(self):
        barred = (ast.Global, ast.AsyncFunctionDef, ast.AsyncFor, ast.AsyncWith, ast.Await, ast.Div)
        self.assertEqual([where for where, _ in nodes(barred)], [])
        for where, node in nodes(ast.Constant):
            with self.subTest(where):
                self.assertNotIsInstance(node.value, (float, complex))
                self.assertFalse(isinstance(node.value, str) and chr(37) in node.value)

    def test_builtins(self):
        for where, node in nodes(ast.Name):
            with self.subTest(where):
                if hasattr(builtins, node.id):
                    self.assertIn(node.id, BUILTINS)
                    self.assertIsInstance(node.ctx, ast.Load)
        for where, node in nodes(ast.arg):
            with self.subTest(where):
                self.assertFalse(hasattr(builtins, node.arg))

    def test_what_has_items_says_whether_it_is_iterated_over(self):
        for where, node in nodes(ast.ClassDef):
            with self.subTest(where):
                names = [row.name for row in node.body if isinstance(row, ast.FunctionDef)]
                self.assertTrue("__getitem__" not in names or "__iter__" in names)
                self.assertNotIn("keys", names)

    def test_methods(self):
        own = [node.name for _, node in nodes(ast.FunctionDef)]
        # A function may be held by an attribute, and is called there.
        own += [node.attr for _, node in nodes(ast.Attribute) if isinstance(node.ctx, ast.Store)]
        for where, node in nodes(ast.Call):
            if isinstance(node.func, ast.Attribute):
                with self.subTest(where):
                    self.assertIn(node.func.attr, METHODS + own)


if __name__ == "__main__":
    unittest.main()
