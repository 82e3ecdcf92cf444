"""The interface: names, arguments, and the file that defines each name."""

import ast
import importlib
import inspect
import pathlib
import unittest

PACKAGE = pathlib.Path(__file__).resolve().parent.parent / "restartable"

FUNCTIONS = {
    "scripts": {
        "is_script": ["thing"],
        "run": ["script", "record"],
        "behind": ["script", "many", "record"],
        "stopped": ["script", "stops", "record"],
    },
    "effects": {
        "is_effect": ["thing"],
        "effect": ["script"],
        "effect_behind": ["script", "many"],
        "applied": ["effect", "record"],
        "both": ["one", "other"],
        "nothing": ["fields"],
        "matters": ["script"],
    },
    "verdicts": {
        "verdict": ["script"],
        "shows_verdict": ["script", "thing"],
        "results": ["script"],
        "outcomes": ["script", "record"],
    },
    "shortest": {
        "clash": ["effect"],
        "shortest": ["effect"],
    },
    "marks": {
        "marked": ["script", "marks", "stops", "record"],
        "marks_verdict": ["script", "marks"],
        "shows_marks": ["script", "marks", "thing"],
        "fewest": ["script"],
    },
    "orders": {
        "orders": ["script"],
    },
}

# For each class its file, its bases, how it is made, its properties, and its methods with their arguments.
CLASSES = {
    "Script": ("objects", ["object"], "(fields, *steps)", ["fields", "steps", "plain", "effect", "matters", "safe"], {
        "text": "(self)", "read": "(text)", "of": "(effect)", "__call__": "(self, record)", "__add__": None,
        "__mul__": None, "__getitem__": None, "__len__": None, "__contains__": None, "__eq__": None, "__repr__": None}),
    "Run": ("runs", ["object"], "(script, record)", ["script", "record", "place", "ended", "changes"], {
        "assign_record": "(self, record)", "step": "(self)", "go": "(self, many)", "__call__": "(self, many)",
        "stop": "(self)", "finish": "(self)", "undo": "(self)", "trying": "(self)", "__len__": None,
        "__repr__": None}),
    "Marked": ("runs", ["Run"], "(script, record, *marks)", ["marks", "mark"], {}),
    "Counted": ("runs", ["Run"], "(script, record)", ["beginnings"], {}),
    "CountedMarked": ("runs", ["Counted", "Marked"], "(script, record, *marks)", [], {}),
}

ERRORS = ("RestartError", "ScriptError", "FieldsError", "StepError", "RecordError", "NumberError", "StopsError",
          "EffectError", "MarksError", "MatchError", "PlaceError", "TextError", "Ended", "NothingDone", "NotSafe",
          "LimitError")


def defined(name, kind):
    tree = ast.parse((PACKAGE / f"{name}.py").read_text())
    return [node.name for node in tree.body if isinstance(node, kind)]


class InterfaceTest(unittest.TestCase):
    def test_functions_are_defined_in_their_files(self):
        for file, functions in FUNCTIONS.items():
            for name in functions:
                with self.subTest(f"{file}.{name}"):
                    self.assertEqual(defined(file, ast.FunctionDef).count(name), 1)

    def test_arguments_have_their_names(self):
        for file, functions in FUNCTIONS.items():
            module = importlib.import_module(f"restartable.{file}")
            for name, arguments in functions.items():
                with self.subTest(f"{file}.{name}"):
                    parameters = inspect.signature(getattr(module, name)).parameters
                    self.assertEqual(list(parameters), arguments)

    def test_classes_are_defined_in_their_files(self):
        for name, (file, bases, arguments, _, _) in CLASSES.items():
            with self.subTest(name):
                self.assertEqual(defined(file, ast.ClassDef).count(name), 1)
                made = getattr(importlib.import_module(f"restartable.{file}"), name)
                self.assertEqual([base.__name__ for base in made.__bases__], bases)
                self.assertEqual(str(inspect.signature(made)), arguments)
                self.assertIn("__init__", vars(made))

    def test_properties_and_methods_are_defined_in_their_classes(self):
        for name, (file, _, _, properties, methods) in CLASSES.items():
            made = getattr(importlib.import_module(f"restartable.{file}"), name)
            for word in properties:
                with self.subTest(f"{name}.{word}"):
                    self.assertIsInstance(vars(made)[word], property)
                    self.assertEqual(vars(made)[word].fset is not None, word == "record")
            for word, arguments in methods.items():
                with self.subTest(f"{name}.{word}"):
                    self.assertIn(word, vars(made))
                    if arguments is not None:
                        self.assertEqual(str(inspect.signature(getattr(made, word))), arguments)

    def test_class_and_static_methods(self):
        made = vars(importlib.import_module("restartable.objects").Script)
        self.assertIsInstance(made["read"], classmethod)
        self.assertIsInstance(made["of"], staticmethod)

    def test_errors_are_defined_in_their_file(self):
        self.assertEqual(sorted(defined("errors", ast.ClassDef)), sorted(ERRORS))

    def test_the_package_holds_no_tests(self):
        self.assertEqual([path.name for path in PACKAGE.rglob("test*")], [])
        self.assertTrue((PACKAGE / "__init__.py").is_file())


if __name__ == "__main__":
    unittest.main()
