"""The interface of the document: what stands in which file, and the rules for files that are easy to see."""

import ast
import importlib
import pathlib
import unittest

PACKAGE = pathlib.Path(__file__).resolve().parent.parent / "turnstile"

CLASSES = {
    "errors": {name: [] for name in (
        "GateError", "NoBound", "NoMoment", "NoCost", "NoName", "NoPlace", "NoVisit",
        "Late", "Full", "BadRow", "Never", "Broken")},
    "bounds": {name: ["room", "meter"] for name in ("Bound", "Jar", "Window")},
    "meters": {name: ["can", "wait", "take", "kept"] for name in ("Meter", "JarMeter", "WindowMeter")},
    "gate": {"Gate": ["ask", "visit", "names", "kept"]},
    "books": {"Book": ["visits", "put", "drop", "change", "earliest"]},
}
FUNCTIONS = {
    "stretches": {"broken": ["bound", "visits"]},
    "plans": {"plan": ["bounds", "moment", "costs"]},
    "rows": {"play": ["text"]},
}
ARGUMENTS = {
    "room": ["self", "first", "last"],
    "meter": ["self"],
    "can": ["self", "moment", "cost"],
    "wait": ["self", "moment", "cost"],
    "take": ["self", "moment", "cost"],
    "kept": ["self"],
    "ask": ["self", "name", "moment", "cost"],
    "visit": ["self", "name", "moment", "cost"],
    "names": ["self"],
    "visits": ["self"],
    "put": ["self", "moment", "cost"],
    "drop": ["self", "moment", "cost"],
    "change": ["self", "k", "bound"],
    "earliest": ["self", "moment", "cost"],
}
BUILT = {
    "Jar": ["self", "size", "flow"],
    "Window": ["self", "most", "span"],
    "Never": ["self", "place"],
    "Broken": ["self", "k", "stretch"],
    "Gate": ["self", "own", "common"],
    "Book": ["self", "bounds"],
}


def parsed(path):
    return ast.parse(path.read_text(encoding="ascii"))


def defined(body, kind):
    return {node.name: node for node in body if isinstance(node, kind)}


def arguments(function):
    return [argument.arg for argument in function.args.args]


class Interface(unittest.TestCase):
    def test_each_class_and_method_stands_in_its_file(self):
        for file, classes in CLASSES.items():
            found = defined(parsed(PACKAGE / f"{file}.py").body, ast.ClassDef)
            for name, methods in classes.items():
                with self.subTest(file=file, name=name):
                    own = defined(found[name].body, ast.FunctionDef)
                    for method in methods:
                        self.assertEqual(arguments(own[method]), ARGUMENTS[method])
                    if name in BUILT:
                        self.assertEqual(arguments(own["__init__"]), BUILT[name])
                    module = importlib.import_module(f"turnstile.{file}")
                    self.assertEqual(getattr(module, name).__module__, f"turnstile.{file}")

    def test_each_function_stands_in_its_file(self):
        for file, functions in FUNCTIONS.items():
            found = defined(parsed(PACKAGE / f"{file}.py").body, ast.FunctionDef)
            for name, told in functions.items():
                self.assertEqual(arguments(found[name]), told)
                module = importlib.import_module(f"turnstile.{file}")
                self.assertEqual(getattr(module, name).__module__, f"turnstile.{file}")

    def test_arguments_are_taken_by_their_names(self):
        bounds = importlib.import_module("turnstile.bounds")
        gate = importlib.import_module("turnstile.gate").Gate(own=[bounds.Jar(size=5, flow=1)], common=None)
        self.assertEqual(gate.visit(name="bob", moment=0, cost=5), ("open",))
        self.assertEqual(gate.ask(name="bob", moment=0, cost=1), ("shut", "own", 0, 1))
        plan = importlib.import_module("turnstile.plans").plan
        self.assertEqual(plan(bounds=[bounds.Window(most=5, span=3)], moment=2, costs=[5, 1]), [2, 5])
        book = importlib.import_module("turnstile.books").Book(bounds=[bounds.Jar(5, 1)])
        book.put(moment=3, cost=5)
        book.change(k=0, bound=bounds.Jar(6, 1))
        self.assertEqual(book.earliest(moment=3, cost=2), 4)
        book.drop(moment=3, cost=5)
        self.assertEqual(importlib.import_module("turnstile.rows").play(text="names"), ["-"])

    def test_what_stands_under_what(self):
        bounds = importlib.import_module("turnstile.bounds")
        meters = importlib.import_module("turnstile.meters")
        for below in (bounds.Jar, bounds.Window):
            self.assertTrue(issubclass(below, bounds.Bound))
        for below in (meters.JarMeter, meters.WindowMeter):
            self.assertTrue(issubclass(below, meters.Meter))


class Files(unittest.TestCase):
    def test_the_folder_holds_nothing_but_python_files(self):
        for path in PACKAGE.iterdir():
            self.assertTrue(path.suffix == ".py" or path.name == "__pycache__", path)

    def test_sizes(self):
        for path in PACKAGE.glob("*.py"):
            lines = path.read_text(encoding="ascii").splitlines()
            self.assertLessEqual(len(lines), 399, path)
            self.assertLessEqual(max(map(len, lines), default=0), 120, path)
            for node in ast.walk(parsed(path)):
                if isinstance(node, ast.FunctionDef):
                    self.assertLessEqual(node.end_lineno - node.lineno + 1, 40, (path, node.name))

    def test_imports_come_from_the_package_alone(self):
        for path in PACKAGE.glob("*.py"):
            for node in ast.walk(parsed(path)):
                self.assertNotIsInstance(node, ast.Import, path)
                if isinstance(node, ast.ImportFrom):
                    self.assertTrue(node.module.startswith("turnstile."), path)


if __name__ == "__main__":
    unittest.main()
