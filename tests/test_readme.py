"""The examples of README.md."""

import builtins
import doctest
import unittest
from pathlib import Path

README = Path(__file__).resolve().parent.parent / "README.md"


class Examples(unittest.TestCase):

    def test_each_one_gives_what_it_shows(self):
        # The fences would be taken for what an example prints.
        lines = README.read_text(encoding="utf-8").split("\n")
        text = "\n".join("" if line.startswith("```") else line for line in lines)
        test = doctest.DocTestParser().get_doctest(text, {}, "README", str(README), 0)
        # What is shown last is kept under this name, which no other test shall find.
        self.addCleanup(vars(builtins).pop, "_", None)
        told = []
        found = doctest.DocTestRunner(verbose=False).run(test, out=told.append)
        self.assertTrue(found.attempted > 10)
        self.assertEqual(found.failed, 0, "".join(told))


if __name__ == "__main__":
    unittest.main()
