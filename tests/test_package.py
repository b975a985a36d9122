"""The form of the package: what stands where, and the rules of the language that a simple look can check."""

import ast
import importlib
import inspect
import pathlib
import re
import unittest

FOLDER = pathlib.Path(__file__).resolve().parent.parent / "hiddenrank"
FILES = sorted(FOLDER.glob("*.py"))
BARRED_WORDS = re.compile(
    r"\b(type|typing|typing_extensions|enum|Enum|IntEnum|StrEnum|Flag|IntFlag|Generic|Protocol|ABC|ABCMeta"
    r"|namedtuple|NamedTuple|TypedDict|TYPE_CHECKING|abstractmethod)\b|dataclass|overload|contextmanager")

INTERFACE = {
    "schemas": {"is_name": ["text"], "is_value": ["text"], "Schema": ["fields"]},
    "conditions": {"is_condition": ["thing"], "size_of": ["condition"], "depth_of": ["condition"],
                   "tests_of": ["condition"], "parse_condition": ["text"], "format_condition": ["condition"]},
    "matching": {"check_condition": ["schema", "condition"], "matches": ["schema", "condition", "request"],
                 "matching": ["schema", "condition"], "first_difference": ["schema", "one", "other"],
                 "first_exception": ["schema", "one", "other"]},
    "orders": {"check_problem": ["size", "pairs", "reports"], "agrees": ["size", "pairs", "reports", "order"],
               "find_order": ["size", "pairs", "reports"], "layers": ["size", "pairs", "reports"],
               "largest_deadlock": ["size", "pairs", "reports"]},
    "deadlocks": {"is_deadlock": ["size", "pairs", "reports", "deadlock"],
                  "is_irreducible": ["size", "pairs", "reports", "deadlock"],
                  "shrink": ["size", "pairs", "reports", "deadlock"],
                  "possible_first": ["size", "pairs", "reports", "slots"],
                  "compare_slots": ["size", "pairs", "reports", "one", "other"]},
    "layouts": {"Layout": ["slots"]},
}
METHODS = {
    ("schemas", "Schema"): {"fields": [], "values_of": ["field"], "size": [], "request_of": ["number"],
                            "number_of": ["request"], "__eq__": ["other"], "__len__": [], "__repr__": []},
    ("layouts", "Layout"): {"slots": [], "names": [], "place_of": ["name"], "added": ["name"], "dropped": ["name"],
                            "moved": ["name"], "beside": ["name", "other", "behind"], "swapped": ["name", "other"],
                            "speakers": ["some"], "__eq__": ["other"], "__len__": [], "__repr__": []},
}
DEFAULTS = {("layouts", "Layout", "__init__"): {"slots": ()}, ("layouts", "Layout", "beside"): {"behind": False}}


class Interface(unittest.TestCase):
    def test_functions_and_classes_stand_in_their_files(self):
        for module, members in INTERFACE.items():
            loaded = importlib.import_module(f"hiddenrank.{module}")
            for name, parameters in members.items():
                member = getattr(loaded, name)
                self.assertEqual(member.__module__, f"hiddenrank.{module}", name)
                self.assertEqual(list(inspect.signature(member).parameters), parameters, name)

    def test_methods_stand_in_their_classes(self):
        for (module, owner), methods in METHODS.items():
            members = vars(getattr(importlib.import_module(f"hiddenrank.{module}"), owner))
            for name, parameters in methods.items():
                self.assertEqual(list(inspect.signature(members[name]).parameters), ["self"] + parameters, name)

    def test_default_values(self):
        for (module, owner, name), expected in DEFAULTS.items():
            member = vars(getattr(importlib.import_module(f"hiddenrank.{module}"), owner))[name]
            parameters = inspect.signature(member).parameters.values()
            found = {one.name: one.default for one in parameters if one.default is not one.empty}
            self.assertEqual(found, expected, name)


class Language(unittest.TestCase):
    def test_sizes_and_characters(self):
        self.assertTrue(FILES)
        for path in FILES:
            lines = path.read_text(encoding="utf-8").split("\n")
            self.assertLess(len(lines), 400, path.name)
            for number, line in enumerate(lines, start=1):
                where = f"{path.name}:{number}"
                self.assertLessEqual(len(line), 120, where)
                self.assertRegex(line, r"\A[ -~]*\Z", where)
                self.assertNotRegex(line, BARRED_WORDS, where)

    def test_functions_names_and_imports(self):
        for path in FILES:
            for node in ast.walk(ast.parse(path.read_text(encoding="utf-8"))):
                where = f"{path.name}:{getattr(node, 'lineno', 0)}"
                self.assertNotIsInstance(node, (ast.Import, ast.Global, ast.AsyncFunctionDef, ast.Div), where)
                if isinstance(node, ast.FunctionDef):
                    self.assertLessEqual(node.end_lineno - node.lineno + 1, 40, where)
                    self.assertTrue(not node.name.startswith("_") or node.name.startswith("__"), where)
                if isinstance(node, ast.Name):
                    self.assertFalse(node.id.startswith("_"), where)
                if isinstance(node, ast.ImportFrom):
                    self.assertTrue(node.level == 0 and node.module.startswith("hiddenrank."), where)
                if isinstance(node, ast.Constant) and isinstance(node.value, str):
                    self.assertNotIn("%", node.value, where)


if __name__ == "__main__":
    unittest.main()
