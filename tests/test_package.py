"""The interface, and [0.3]: nothing from outside is used."""

import ast
import inspect
import pathlib
import unittest

from rowsteps import (
    apart, device, devicetext, errors, few, find, made, modulo, papers, parted, remains, small, tables, three, told,
    turning, whole, words,
)

FOLDER = pathlib.Path(__file__).resolve().parent.parent / "rowsteps"
LIBRARY = ("heapq", "math", "itertools", "collections")
READERS = ("open", "input", "print", "eval", "exec", "compile", "__import__")

INTERFACE = [
    (tables, "is_table", ["value"]),
    (tables, "identity", ["n"]),
    (tables, "times", ["first", "second"]),
    (tables, "inverse", ["table"]),
    (tables, "bordered", ["table"]),
    (tables, "step", ["n", "i", "j", "k"]),
    (words, "word_of", ["table"]),
    (words, "table_of", ["n", "word"]),
    (modulo, "rest", ["N", "table"]),
    (modulo, "is_alike", ["N", "first", "second"]),
    (modulo, "word_modulo", ["N", "square"]),
    (modulo, "lifted", ["N", "square"]),
    (modulo, "count", ["n", "N"]),
    (modulo, "all_modulo", ["N"]),
    (parted, "pieces", ["device"]),
    (parted, "piece_of", ["device", "lot"]),
    (parted, "merged", ["device", "lots"]),
    (parted, "renamed", ["device", "order"]),
    (parted, "likeness", ["first", "second"]),
    (parted, "beside", ["first", "second"]),
    (parted, "paired", ["first", "second"]),
    (made, "rows_device", ["n", "N"]),
    (made, "lines_device", ["n", "N"]),
    (made, "planes_device", ["n", "N"]),
    (made, "cosets_device", ["n", "N", "tables"]),
    (devicetext, "text_of", ["device"]),
    (devicetext, "device_of", ["text"]),
    (turning, "v_polynomial", ["k"]),
    (turning, "poly_product", ["N", "p", "q"]),
    (turning, "turning_product", ["N", "first", "second"]),
    (turning, "unit_turning", ["N"]),
    (turning, "mirror", ["N", "place"]),
    (turning, "turned", ["N", "table"]),
    (turning, "is_made", ["N", "table"]),
    (apart, "turned_step", ["N", "u"]),
    (apart, "apart", ["N"]),
    (told, "told_apart", ["device"]),
    (small, "representatives", ["N"]),
    (small, "tie", ["N", "place", "letter"]),
    (small, "paper_of_two", ["N", "table"]),
    (three, "paper_of_three", ["N", "table"]),
    (papers, "worth", ["N", "n", "value"]),
    (papers, "judge", ["N", "table", "value"]),
    (papers, "backwards", ["paper"]),
    (papers, "conjugated", ["C", "paper"]),
    (papers, "shortened", ["paper"]),
    (find, "paper", ["N", "table"]),
    (remains, "act_modulo", ["device", "table", "state"]),
    (remains, "number_kept", ["device", "state"]),
    (remains, "gone", ["device", "start", "goal"]),
    (remains, "is_told", ["device"]),
    (few, "few_device", ["kind"]),
    (few, "kinds", ["device"]),
    (whole, "answer", ["text"]),
]
ERRORS = [
    "BadTable", "BadNumber", "BadPlace", "BadDevice", "BadState", "BadLot", "TooLarge", "BadText", "BadPaper", "NotAlike",
    "TooLong", "BadKind",
]
METHODS = [
    (device.Device, "__init__", ["self", "n", "moves"]),
    (device.Device, "move", ["self", "i", "j"]),
    (device.Device, "act", ["self", "table", "state"]),
    (device.Device, "exchange", ["self", "table"]),
]


def sources():
    return [(path.name, ast.parse(path.read_text("utf-8"))) for path in sorted(FOLDER.glob("*.py"))]


class PackageTest(unittest.TestCase):
    def assert_plain(self, function, name, arguments):
        self.assertTrue(inspect.isfunction(function))
        self.assertEqual(function.__name__, name)
        parameters = inspect.signature(function).parameters
        self.assertEqual(list(parameters), arguments)
        for parameter in parameters.values():
            self.assertEqual(parameter.kind, parameter.POSITIONAL_OR_KEYWORD)
            self.assertIs(parameter.default, parameter.empty)

    def test_each_function_is_defined_in_its_file_with_its_arguments(self):
        for module, name, arguments in INTERFACE:
            with self.subTest(name=name):
                function = getattr(module, name)
                self.assertEqual(function.__module__, module.__name__)
                self.assert_plain(function, name, arguments)

    def test_each_method_stands_in_its_class(self):
        self.assertEqual(device.Device.__module__, "rowsteps.device")
        for owner, name, arguments in METHODS:
            with self.subTest(name=name):
                self.assertIn(name, vars(owner))
                self.assert_plain(vars(owner)[name], name, arguments)

    def test_the_attributes_of_a_device_are_set_on_the_object(self):
        one = device.Device(2, {(0, 1): (0,), (1, 0): (0,)})
        self.assertEqual({name: vars(one)[name] for name in ("n", "size", "round")}, {"n": 2, "size": 1, "round": 1})

    def test_arguments_may_be_passed_by_name(self):
        one = ((1, 0), (0, 1))
        self.assertIs(tables.is_table(value=one), True)
        self.assertEqual(tables.identity(n=2), one)
        self.assertEqual(tables.times(first=one, second=one), one)
        self.assertEqual(tables.inverse(table=one), one)
        self.assertEqual(tables.bordered(table=one), ((1, 0, 0), (0, 1, 0), (0, 0, 1)))
        self.assertEqual(tables.step(n=2, i=0, j=1, k=5), ((1, 5), (0, 1)))
        self.assertEqual(words.table_of(n=2, word=words.word_of(table=one)), one)
        self.assertEqual(modulo.rest(N=2, table=one), one)
        self.assertIs(modulo.is_alike(N=2, first=one, second=one), True)
        self.assertLessEqual(len(modulo.word_modulo(N=2, square=one)), 4)
        self.assertEqual(modulo.rest(2, modulo.lifted(N=2, square=one)), one)
        self.assertEqual((modulo.count(n=2, N=1), len(modulo.all_modulo(N=1))), (1, 1))

    def test_devices_may_be_passed_by_name(self):
        lines = made.lines_device(n=2, N=2)
        self.assertEqual(parted.pieces(device=lines), [(0, 1, 2)])
        self.assertEqual(parted.piece_of(device=lines, lot=(0, 1, 2)).size, 3)
        self.assertEqual(parted.merged(device=lines, lots=[(0, 1, 2)]).size, 1)
        self.assertEqual(parted.renamed(device=lines, order=(2, 0, 1)).size, 3)
        self.assertEqual(parted.likeness(first=lines, second=lines), (0, 1, 2))
        self.assertEqual(parted.beside(first=lines, second=lines).size, 6)
        self.assertEqual(parted.paired(first=lines, second=lines).size, 9)
        self.assertEqual(devicetext.device_of(text=devicetext.text_of(device=lines)).size, 3)

    def test_turnings_may_be_passed_by_name(self):
        one = turning.unit_turning(N=3)
        self.assertEqual(turning.v_polynomial(k=1), (1,))
        self.assertEqual(turning.poly_product(N=3, p=(2, 0), q=(3, 0)), (6, 0))
        seen = turning.mirror(N=3, place=0)
        self.assertEqual(turning.turning_product(N=3, first=one, second=seen), seen)
        self.assertEqual(turning.turned(N=3, table=((1, 0), (0, 1))), one)
        self.assertIs(turning.is_made(N=3, table=((1, 0), (0, 1))), True)
        self.assertEqual(apart.turned_step(N=7, u=2), apart.apart(N=7))

    def test_papers_may_be_passed_by_name(self):
        one = ((1, 0), (0, 1))
        self.assertEqual(papers.worth(N=2, n=2, value=()), one)
        self.assertIs(papers.judge(N=2, table=one, value=()), True)
        self.assertEqual(papers.backwards(paper=((one, 0, 1, 1),)), ((one, 0, 1, -1),))
        self.assertEqual(papers.conjugated(C=one, paper=()), ())
        self.assertEqual(papers.shortened(paper=()), ())
        self.assertEqual(len(small.representatives(N=2)), 6)
        self.assertEqual(small.tie(N=2, place=0, letter="S"), (1, ()))
        self.assertIs(papers.judge(2, one, small.paper_of_two(N=2, table=one)), True)
        three_rows = ((1, 7, 0), (0, 1, 0), (0, 0, 1))
        self.assertIs(papers.judge(7, three_rows, three.paper_of_three(N=7, table=three_rows)), True)
        self.assertIsNone(told.told_apart(device=made.lines_device(2, 2)))

    def test_the_rest_may_be_passed_by_name(self):
        one = ((1, 0), (0, 1))
        three_rows = ((1, 0, 0), (0, 1, 0), (0, 0, 1))
        lines = made.lines_device(3, 2)
        self.assertEqual(papers.worth(2, 2, find.paper(N=2, table=one)), one)
        self.assertEqual(remains.act_modulo(device=lines, table=three_rows, state=3), 3)
        self.assertEqual(remains.number_kept(device=lines, state=3), 24)
        self.assertEqual(lines.act(remains.gone(device=lines, start=1, goal=5), 1), 5)
        self.assertIs(remains.is_told(device=lines), True)
        self.assertEqual(few.kinds(device=few.few_device(kind="planes")), ("planes",))
        self.assertEqual(whole.answer(text="device 2 1\n0 1 0\n1 0 0\n"), (2, 1, 1, (1,), True))

    def test_the_errors(self):
        self.assertIs(errors.RowstepsError.__bases__[0], ValueError)
        for name in ERRORS:
            self.assertEqual(getattr(errors, name).__bases__, (errors.RowstepsError,))
            self.assertEqual(getattr(errors, name).__module__, "rowsteps.errors")

    def test_only_the_package_and_plain_helpers_are_imported(self):
        found = sources()
        self.assertIn("tables.py", [name for name, _ in found])
        for name, tree in found:
            for node in ast.walk(tree):
                with self.subTest(file=name):
                    self.assertNotIsInstance(node, ast.Import)
                    if isinstance(node, ast.ImportFrom):
                        self.assertEqual(node.level, 0)
                        self.assertIn(node.module.split(".")[0], ("rowsteps",) + LIBRARY)

    def test_nothing_reads_or_writes(self):
        for name, tree in sources():
            for node in ast.walk(tree):
                if isinstance(node, ast.Name):
                    with self.subTest(file=name):
                        self.assertNotIn(node.id, READERS)


if __name__ == "__main__":
    unittest.main()
