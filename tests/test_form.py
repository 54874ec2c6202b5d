"""The interface's names and arguments, and the measures of the language rules."""

import ast
import importlib
import inspect
import pathlib
import unittest

LIBRARY = ["ghosttext", "heapq", "math", "itertools", "collections", "__future__"]
FOLDER = pathlib.Path(__file__).resolve().parent.parent / "ghosttext"

INTERFACE = {
    "words": {
        "is_word": "(value)", "is_book": "(value)", "is_history": "(value)", "clashing_pair": "(value)",
        "after_uses": "(book, *used)", "book_after": "(history)",
    },
    "suggestions": {
        "suggestion": "(book, text)", "blocker": "(book, word)", "keys_for": "(book, word)",
        "key_text": "(book, word)", "steps": "(book, word)", "key_counts": "(book)",
    },
    "branches": {
        "branchings": "(words)", "constant_list": "(words)", "state_of": "(book)", "are_alike": "(book, other)",
        "word_that_differs": "(book, other)",
    },
    "histories": {
        "keys_of_uses": "(history, *, start=None)", "steady_keys": "(words)",
        "total_keys": "(history, *, start=None)", "saved_keys": "(history, *, start=None)",
        "keys_of_rounds": "(history, rounds)", "obstacle": "(history, index)", "round_keys": "(history)",
    },
    "states": {
        "is_state": "(words, value)", "count_states": "(words)", "state_rank": "(words, state)",
        "nth_state": "(words, index)", "state_after": "(words, state, word)", "book_of_state": "(words, state)",
    },
    "costs": {
        "possible_keys": "(words, word)", "count_books_with": "(words, word, keys)", "state_from_keys": "(words, keys)",
    },
    "orders": {
        "count_alike": "(book)", "alike_rank": "(book)", "nth_alike": "(book, index)",
    },
    "moves": {
        "fewest_uses": "(book, goal)", "count_shortest": "(book, goal)", "shortest_rank": "(book, goal, value)",
        "needed_words": "(book, goal)", "nth_shortest": "(book, goal, index)", "is_shortest": "(book, goal, value)",
    },
    "text": {
        "format_words": "(history)", "format_state": "(words, state)", "parse_words": "(text)",
        "parse_state": "(words, text)",
    },
}

CLASSES = {"Field": "()", "SmallField": "(most=10)", "CountingField": "()", "SmallCountingField": "(most=10)"}
METHODS = {
    "is_key": "(value)", "read": "(text)", "press": "(self, keys)", "tried": "(self, *presses)", "report": "(self)",
    "forget": "(self, word)", "undo": "(self)", "copy": "(self)", "__eq__": "(self, other)", "__len__": "(self)",
}
PROPERTIES = ["book", "text", "shown", "entered", "pressed"]


def package_files():
    return sorted(path for path in FOLDER.rglob("*") if path.is_file() and "__pycache__" not in path.parts)


def trees():
    return [(path, ast.parse(path.read_text(encoding="utf-8"))) for path in package_files()]


class Interface(unittest.TestCase):
    def test_names_and_arguments(self):
        for file, functions in INTERFACE.items():
            module = importlib.import_module("ghosttext." + file)
            for name, arguments in functions.items():
                with self.subTest(name):
                    function = getattr(module, name)
                    self.assertTrue(inspect.isfunction(function))
                    self.assertEqual(function.__module__, "ghosttext." + file)
                    self.assertEqual(str(inspect.signature(function)), arguments)

    def test_constructors_take_their_value(self):
        errors = importlib.import_module("ghosttext.errors")
        self.assertEqual(str(inspect.signature(errors.PrefixError)), "(pair)")
        self.assertEqual(str(inspect.signature(errors.ImpossibleKeysError)), "(beginning)")

    def test_classes(self):
        module = importlib.import_module("ghosttext.field")
        for name, arguments in CLASSES.items():
            with self.subTest(name):
                kind = getattr(module, name)
                self.assertEqual([kind.__module__, str(inspect.signature(kind))], ["ghosttext.field", arguments])

    def test_each_class_defines_its_methods_itself(self):
        module = importlib.import_module("ghosttext.field")
        for name in CLASSES:
            kind = getattr(module, name)
            for method, arguments in METHODS.items():
                with self.subTest(name=name, method=method):
                    self.assertIn(method, vars(kind))
                    self.assertEqual(str(inspect.signature(getattr(kind, method))), arguments)
            self.assertIs(type(vars(kind)["is_key"]), staticmethod)
            self.assertIs(type(vars(kind)["read"]), classmethod)

    def test_each_class_defines_its_properties_itself(self):
        module = importlib.import_module("ghosttext.field")
        for name in CLASSES:
            names = PROPERTIES + ["most"] * ("Small" in name) + ["counts"] * ("Counting" in name)
            found = [key for key, value in vars(getattr(module, name)).items() if isinstance(value, property)]
            self.assertEqual(sorted(found), sorted(names))

    def test_steps_yields(self):
        self.assertTrue(inspect.isgeneratorfunction(importlib.import_module("ghosttext.suggestions").steps))


class LanguageRules(unittest.TestCase):
    def test_files(self):
        self.assertIn("__init__.py", [path.name for path in package_files()])
        for path in package_files():
            with self.subTest(path.name):
                self.assertEqual(path.suffix, ".py")
                lines = path.read_bytes().decode("ascii").split("\n")
                self.assertLessEqual(len(lines), 399)
                self.assertTrue(all(len(line) <= 120 and (line + " ").isprintable() for line in lines))

    def test_functions_have_at_most_40_lines(self):
        for path, tree in trees():
            for node in ast.walk(tree):
                if isinstance(node, ast.FunctionDef):
                    self.assertLessEqual(node.end_lineno - node.lineno + 1, 40, f"{path.name}: {node.name}")

    def test_imports(self):
        for path, tree in trees():
            imports = [node for node in ast.walk(tree) if isinstance(node, (ast.Import, ast.ImportFrom))]
            for node in imports:
                self.assertIsInstance(node, ast.ImportFrom, path.name)
                self.assertEqual(node.level, 0, path.name)
                self.assertIn(node.module.split(".")[0], LIBRARY, path.name)
                self.assertIn(node, tree.body, path.name)

    def test_what_no_file_contains(self):
        barred = (ast.AsyncFunctionDef, ast.AsyncFor, ast.AsyncWith, ast.Await, ast.Div)
        for path, tree in trees():
            for node in ast.walk(tree):
                self.assertNotIsInstance(node, barred, path.name)
                if isinstance(node, ast.Constant):
                    self.assertNotIsInstance(node.value, (float, complex), path.name)


if __name__ == "__main__":
    unittest.main()
