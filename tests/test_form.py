"""The form of the program: where its names are defined, with which arguments, and how large it is."""

import ast
import importlib
import inspect
import pathlib
import unittest

PACKAGE = pathlib.Path(__file__).resolve().parent.parent / "bothwire"

INTERFACE = {
    "numbers": {
        "lowest": 5, "is_eighth": 1, "plus": 2, "times": 2, "mirror": 1, "turned": 2, "over_root": 2,
    },
    "lengths": {"square": 1, "length_sum": 1, "is_less": 2, "length_text": 1},
    "states": {"begun": 2},
    "gates": {"gate_of": 2},
    "texts": {"read": 1, "written": 1},
    "runs": {"run": 2, "columns": 1},
    "signs": {"is_sign_row": 1, "done": 2, "goes_with": 2, "product": 2},
    "signtables": {"plain_table": 1},
    "tableruns": {"table_run": 1},
    "alike": {"held": 2, "input_of": 2},
    "shorter": {"can_step": 2, "stepped": 2, "shortened": 1},
    "turnings": {"turning_of": 1, "turning_circuit": 1},
    "mends": {"mends": 2, "errors": 2, "mended": 3},
}

GATE_METHODS = {"word": 0, "wires": 0, "text": 0, "back": 0, "on": 1, "is_bit": 0, "is_quarter": 0}

# By class under Gate: of how many wires it is made.
GATES = {"X": 1, "Y": 1, "Z": 1, "S": 1, "R": 1, "T": 1, "U": 1, "H": 1, "Cx": 2, "Cz": 2, "Swap": 2, "Ccx": 3}

# By file and class: how many arguments it is made of, and its methods with theirs.
CLASSES = {
    "states": {
        "State": (1, {"many": 0, "eighths": 0, "length": 0, "inside": 1, "turn_to": 1}),
    },
    "gates": {
        "Gate": (0, GATE_METHODS),
    },
    "circuits": {
        "Reading": (2, {"text": 0}),
        "Asking": (3, {"text": 0}),
        "Circuit": (2, {"many": 0, "rows": 0, "told": 0, "bits": 0, "is_plain": 0, "back": 0, "then": 1}),
    },
    "signtables": {
        "SignTable": (1, {"many": 0, "rows": 0, "on": 1, "told": 1, "read": 2, "holds": 1, "state": 0}),
    },
    "codes": {
        "Code": (1, {"many": 0, "rows": 0, "signs": 1, "same": 2, "far": 0, "holds": 1}),
    },
    "desk": {
        "Desk": (0, {"say": 1, "play": 1}),
    },
}


class Interface(unittest.TestCase):
    def assert_arguments(self, thing, many):
        """The thing is called with just so many arguments."""
        arguments = inspect.signature(thing).parameters.values()
        self.assertEqual(len(arguments), many)
        for argument in arguments:
            self.assertIs(argument.default, argument.empty)

    def test_each_name_is_defined_in_its_own_file_with_its_arguments(self):
        for file_name, names in INTERFACE.items():
            module = importlib.import_module("bothwire." + file_name)
            for name, many in names.items():
                with self.subTest(file=file_name, name=name):
                    function = getattr(module, name)
                    self.assertTrue(inspect.isfunction(function))
                    self.assertEqual(function.__module__, module.__name__)
                    self.assert_arguments(function, many)

    def test_each_class_is_defined_in_its_own_file_with_its_methods(self):
        for file_name, names in CLASSES.items():
            module = importlib.import_module("bothwire." + file_name)
            for name, (many, methods) in names.items():
                made = getattr(module, name)
                self.assertTrue(inspect.isclass(made))
                self.assertEqual(made.__module__, module.__name__)
                # Gate is made by the classes under it alone.
                if name != "Gate":
                    self.assert_arguments(made, many)
                for method, count in methods.items():
                    with self.subTest(file=file_name, name=name, method=method):
                        self.assertIn(method, vars(made))
                        self.assert_arguments(vars(made)[method], count + 1)

    def test_each_word_has_a_class_under_gate(self):
        module = importlib.import_module("bothwire.gates")
        for name, many in GATES.items():
            made = getattr(module, name)
            self.assertTrue(issubclass(made, module.Gate))
            self.assertEqual(made.__module__, module.__name__)
            self.assert_arguments(made, many)
            for method, count in GATE_METHODS.items():
                self.assert_arguments(getattr(made, method), count + 1)


class Form(unittest.TestCase):
    def files(self):
        found = sorted(PACKAGE.rglob("*.py"))
        self.assertIn(PACKAGE / "__init__.py", found)
        return found

    def test_the_package_has_plain_files_alone(self):
        for path in PACKAGE.rglob("*"):
            if "__pycache__" not in path.parts:
                self.assertEqual(path.suffix, ".py", path)

    def test_sizes_and_signs(self):
        for path in self.files():
            text = path.read_bytes().decode("ascii")
            rows = text.split("\n")
            self.assertLessEqual(len(rows), 399, path)
            for number, row in enumerate(rows, 1):
                self.assertLessEqual(len(row), 120, (path, number))
                self.assertTrue(all(" " <= sign <= "~" for sign in row), (path, number))

    def test_functions_are_small(self):
        for path in self.files():
            for node in ast.walk(ast.parse(path.read_text())):
                if isinstance(node, ast.FunctionDef):
                    self.assertLessEqual(node.end_lineno - node.lineno + 1, 40, (path, node.name))

    def test_files_import_from_the_package_or_the_allowed_library(self):
        allowed = ("heapq", "math", "itertools", "collections", "__future__")
        for path in self.files():
            tree = ast.parse(path.read_text())
            for node in ast.walk(tree):
                self.assertNotIsInstance(node, ast.Import, path)
                if isinstance(node, ast.ImportFrom):
                    self.assertIn(node, tree.body, path)
                    self.assertEqual(node.level, 0, path)
                    self.assertTrue(node.module.startswith("bothwire.") or node.module in allowed, (path, node.module))

    def test_no_points_and_no_fractions(self):
        for path in self.files():
            for node in ast.walk(ast.parse(path.read_text())):
                self.assertNotIsInstance(node, (ast.Div, ast.Global, ast.AsyncFunctionDef), path)
                if isinstance(node, ast.Constant):
                    self.assertNotIsInstance(node.value, (float, complex), path)


if __name__ == "__main__":
    unittest.main()
