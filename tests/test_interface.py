"""The interface: names, arguments, and the file that defines each name."""

import ast
import importlib
import inspect
import pathlib
import unittest

PACKAGE = pathlib.Path(__file__).resolve().parent.parent / "restartable"

FUNCTIONS = {
    "scripts": {
        "is_script": ["thing"],
        "run": ["script", "record"],
        "behind": ["script", "many", "record"],
        "stopped": ["script", "stops", "record"],
    },
    "effects": {
        "is_effect": ["thing"],
        "effect": ["script"],
        "effect_behind": ["script", "many"],
        "applied": ["effect", "record"],
        "both": ["one", "other"],
        "nothing": ["fields"],
        "matters": ["script"],
    },
    "verdicts": {
        "verdict": ["script"],
        "shows_verdict": ["script", "thing"],
        "results": ["script"],
        "outcomes": ["script", "record"],
    },
    "shortest": {
        "clash": ["effect"],
        "shortest": ["effect"],
    },
    "marks": {
        "marked": ["script", "marks", "stops", "record"],
        "marks_verdict": ["script", "marks"],
        "shows_marks": ["script", "marks", "thing"],
        "fewest": ["script"],
    },
}

ERRORS = ("RestartError", "ScriptError", "FieldsError", "StepError", "RecordError", "NumberError", "StopsError",
          "EffectError", "MarksError", "MatchError", "PlaceError", "TextError", "Ended", "NothingDone", "NotSafe",
          "LimitError")


def defined(name, kind):
    tree = ast.parse((PACKAGE / f"{name}.py").read_text())
    return [node.name for node in tree.body if isinstance(node, kind)]


class InterfaceTest(unittest.TestCase):
    def test_functions_are_defined_in_their_files(self):
        for file, functions in FUNCTIONS.items():
            for name in functions:
                with self.subTest(f"{file}.{name}"):
                    self.assertEqual(defined(file, ast.FunctionDef).count(name), 1)

    def test_arguments_have_their_names(self):
        for file, functions in FUNCTIONS.items():
            module = importlib.import_module(f"restartable.{file}")
            for name, arguments in functions.items():
                with self.subTest(f"{file}.{name}"):
                    parameters = inspect.signature(getattr(module, name)).parameters
                    self.assertEqual(list(parameters), arguments)

    def test_errors_are_defined_in_their_file(self):
        self.assertEqual(sorted(defined("errors", ast.ClassDef)), sorted(ERRORS))

    def test_the_package_holds_no_tests(self):
        self.assertEqual([path.name for path in PACKAGE.rglob("test*")], [])
        self.assertTrue((PACKAGE / "__init__.py").is_file())


if __name__ == "__main__":
    unittest.main()
