import ast
import inspect
import pathlib
import unittest

from anewhall import book, desk, errors, hall, least, pieces, reading, rings

PACKAGE = pathlib.Path(errors.__file__).resolve().parent

CLASSES = {
    errors: ("HallError", "NoName", "NoNumber", "NoRecipe", "Full", "NoPoint", "NoRow"),
    hall: ("Hall",),
    desk: ("Desk",),
}
METHODS = {
    hall.Hall: {
        "put": ["name", "number"], "make": ["name", "text"], "ask": ["name"], "runs": [], "leans": ["name"],
        "rings": [], "mark": [], "back": ["point"], "wells": [], "works": [],
    },
    desk.Desk: {"said": ["row"], "hall": []},
}
FUNCTIONS = {
    reading: {"read": ["text"]},
    pieces: {"shown": ["recipe"], "answer_of": ["recipe", "ask"], "names_of": ["recipe"]},
    least: {"least": ["wells", "works"]},
    rings: {"led_to": ["name", "leans"], "knots_of": ["names", "leans"]},
    book: {"told": ["hall"], "opened": ["rows"]},
}
LIBRARY = ("__future__", "heapq", "math", "itertools", "collections")
OUTSIDE = ("open", "print", "input", "exec", "eval", "__import__", "hash", "id")


def tree_of(path):
    return ast.parse(path.read_text(encoding="utf-8"))


def defined_in(module, kind):
    tree = tree_of(pathlib.Path(module.__file__))
    return [node.name for node in tree.body if isinstance(node, kind)]


def asked_for(function):
    """The parameters that a caller must pass."""
    parameters = inspect.signature(function).parameters.values()
    return [each.name for each in parameters if each.default is inspect.Parameter.empty]


class InterfaceTest(unittest.TestCase):
    def test_each_class_is_defined_in_its_file(self):
        for module, names in CLASSES.items():
            for name in names:
                with self.subTest(name=name):
                    self.assertIn(name, defined_in(module, ast.ClassDef))

    def test_each_function_is_defined_in_its_file_with_its_arguments(self):
        for module, functions in FUNCTIONS.items():
            for name, arguments in functions.items():
                with self.subTest(name=name):
                    self.assertIn(name, defined_in(module, ast.FunctionDef))
                    self.assertEqual(asked_for(getattr(module, name)), arguments)

    def test_each_method_is_defined_in_its_class_with_its_arguments(self):
        for owner, methods in METHODS.items():
            self.assertEqual(asked_for(owner), [])
            for name, arguments in methods.items():
                with self.subTest(owner=owner.__name__, name=name):
                    self.assertIn(name, vars(owner))
                    self.assertEqual(asked_for(vars(owner)[name]), ["self"] + arguments)


class NothingFromOutsideTest(unittest.TestCase):
    def test_only_the_package_and_plain_library_names_are_imported(self):
        for path in sorted(PACKAGE.glob("*.py")):
            for node in ast.walk(tree_of(path)):
                with self.subTest(file=path.name):
                    self.assertNotIsInstance(node, ast.Import)
                    if isinstance(node, ast.ImportFrom):
                        top = node.module.split(".")[0]
                        self.assertEqual(node.level, 0)
                        self.assertIn(top, ("anewhall",) + LIBRARY)

    def test_no_builtin_that_reaches_outside_is_named(self):
        for path in sorted(PACKAGE.glob("*.py")):
            for node in ast.walk(tree_of(path)):
                if isinstance(node, ast.Name):
                    with self.subTest(file=path.name):
                        self.assertNotIn(node.id, OUTSIDE)


if __name__ == "__main__":
    unittest.main()
