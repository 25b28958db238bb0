"""The interface of what is built so far, and [0.3]: nothing from outside is used."""

import ast
import inspect
import pathlib
import unittest

from rowsteps import tables, words

FOLDER = pathlib.Path(__file__).resolve().parent.parent / "rowsteps"
LIBRARY = ("heapq", "math", "itertools", "collections")
READERS = ("open", "input", "print", "eval", "exec", "compile", "__import__")

INTERFACE = [
    (tables, "is_table", ["value"]),
    (tables, "identity", ["n"]),
    (tables, "times", ["first", "second"]),
    (tables, "inverse", ["table"]),
    (tables, "bordered", ["table"]),
    (tables, "step", ["n", "i", "j", "k"]),
    (words, "word_of", ["table"]),
    (words, "table_of", ["n", "word"]),
]


def sources():
    return [(path.name, ast.parse(path.read_text("utf-8"))) for path in sorted(FOLDER.glob("*.py"))]


class PackageTest(unittest.TestCase):
    def test_each_function_is_defined_in_its_file_with_its_arguments(self):
        for module, name, arguments in INTERFACE:
            with self.subTest(name=name):
                function = getattr(module, name)
                self.assertTrue(inspect.isfunction(function))
                self.assertEqual(function.__module__, module.__name__)
                self.assertEqual(function.__name__, name)
                parameters = inspect.signature(function).parameters
                self.assertEqual(list(parameters), arguments)
                for parameter in parameters.values():
                    self.assertEqual(parameter.kind, parameter.POSITIONAL_OR_KEYWORD)
                    self.assertIs(parameter.default, parameter.empty)

    def test_arguments_may_be_passed_by_name(self):
        one = ((1, 0), (0, 1))
        self.assertIs(tables.is_table(value=one), True)
        self.assertEqual(tables.identity(n=2), one)
        self.assertEqual(tables.times(first=one, second=one), one)
        self.assertEqual(tables.inverse(table=one), one)
        self.assertEqual(tables.bordered(table=one), ((1, 0, 0), (0, 1, 0), (0, 0, 1)))
        self.assertEqual(tables.step(n=2, i=0, j=1, k=5), ((1, 5), (0, 1)))
        self.assertEqual(words.table_of(n=2, word=words.word_of(table=one)), one)

    def test_only_the_package_and_plain_helpers_are_imported(self):
        found = sources()
        self.assertIn("tables.py", [name for name, _ in found])
        for name, tree in found:
            for node in ast.walk(tree):
                with self.subTest(file=name):
                    self.assertNotIsInstance(node, ast.Import)
                    if isinstance(node, ast.ImportFrom):
                        self.assertEqual(node.level, 0)
                        self.assertIn(node.module.split(".")[0], ("rowsteps",) + LIBRARY)

    def test_nothing_reads_or_writes(self):
        for name, tree in sources():
            for node in ast.walk(tree):
                if isinstance(node, ast.Name):
                    with self.subTest(file=name):
                        self.assertNotIn(node.id, READERS)


if __name__ == "__main__":
    unittest.main()
