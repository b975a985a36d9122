"""The form of the package: what stands where, and the rules of the language that a simple look can check."""

import ast
import builtins
import importlib
import inspect
import pathlib
import re
import unittest

FOLDER = pathlib.Path(__file__).resolve().parent.parent / "hiddenrank"
FILES = sorted(FOLDER.glob("*.py"))
BARRED_WORDS = re.compile(
    r"\b(type|typing|typing_extensions|enum|Enum|IntEnum|StrEnum|Flag|IntFlag|Generic|Protocol|ABC|ABCMeta"
    r"|namedtuple|NamedTuple|TypedDict|TYPE_CHECKING|abstractmethod)\b|dataclass|overload|contextmanager")

INTERFACE = {
    "schemas": {"is_name": ["text"], "is_value": ["text"], "Schema": ["fields"]},
    "conditions": {"is_condition": ["thing"], "size_of": ["condition"], "depth_of": ["condition"],
                   "tests_of": ["condition"], "parse_condition": ["text"], "format_condition": ["condition"]},
    "matching": {"check_condition": ["schema", "condition"], "matches": ["schema", "condition", "request"],
                 "matching": ["schema", "condition"], "first_difference": ["schema", "one", "other"],
                 "first_exception": ["schema", "one", "other"]},
    "orders": {"check_problem": ["size", "pairs", "reports"], "agrees": ["size", "pairs", "reports", "order"],
               "find_order": ["size", "pairs", "reports"], "layers": ["size", "pairs", "reports"],
               "largest_deadlock": ["size", "pairs", "reports"]},
    "deadlocks": {"is_deadlock": ["size", "pairs", "reports", "deadlock"],
                  "is_irreducible": ["size", "pairs", "reports", "deadlock"],
                  "shrink": ["size", "pairs", "reports", "deadlock"],
                  "possible_first": ["size", "pairs", "reports", "slots"],
                  "compare_slots": ["size", "pairs", "reports", "one", "other"]},
    "layouts": {"Layout": ["slots"]},
    "ledgers": {"Ledger": ["schema", "effects"]},
    "commands": {"command_text": ["command"], "parse_command": ["text"]},
    "files": {"dump": ["ledger"], "load": ["text"]},
    "consoles": {"Console": ["ledger"]},
}
CONSTANTS = {
    "schemas": {"MAX_NAME": 8, "MAX_FIELDS": 5, "MAX_VALUES": 6, "MAX_REQUESTS": 400},
    "conditions": {"MAX_SIZE": 30, "MAX_DEPTH": 8}, "orders": {"MAX_SLOTS": 30},
    "deeds": {"MAX_RULES": 10, "MAX_REPORTS": 40}, "ledgers": {"MAX_EFFECTS": 6, "MAX_DEEDS": 120},
}
METHODS = {
    ("schemas", "Schema"): {"fields": [], "values_of": ["field"], "size": [], "request_of": ["number"],
                            "number_of": ["request"], "__eq__": ["other"], "__len__": [], "__repr__": []},
    ("layouts", "Layout"): {"slots": [], "names": [], "place_of": ["name"], "added": ["name"], "dropped": ["name"],
                            "moved": ["name"], "beside": ["name", "other", "behind"], "swapped": ["name", "other"],
                            "speakers": ["some"], "__eq__": ["other"], "__len__": [], "__repr__": []},
    ("ledgers", "Ledger"): {
        "apply": ["command"], "apply_all": ["commands"], "add_rule": ["name", "condition", "effect"],
        "observe": ["request", "outcomes"], "compare": ["name", "other"], "rewrite": ["name", "condition", "effect"],
        "undo": [], "redo": [], "history": [], "clone": [], "schema": [], "effects": [], "present": [], "deeds": [],
        "names": ["moment"], "rule": ["name", "moment"], "layout": ["moment"], "problem": [],
        "speakers": ["request", "moment"], "outcomes": ["request", "moment"], "deciders": ["request", "moment"],
        "explain": ["request", "outcome", "moment"], "stronger": ["name", "other", "moment"], "ranking": ["moment"],
        "certain": ["moment"], "idle": ["moment"], "first_change": ["one", "other"], "sources": ["deadlock"],
        "__eq__": ["other"], "__len__": [], "__repr__": []},
    ("consoles", "Console"): {"run": ["line"], "ledger": [], "log": [], "__len__": []},
}
DEFAULTS = {("layouts", "Layout", "__init__"): {"slots": ()}, ("layouts", "Layout", "beside"): {"behind": False},
            ("ledgers", "Ledger", "rewrite"): {"condition": None, "effect": None}}
DEFAULTS.update({("ledgers", "Ledger", name): {"moment": None}
                 for name, parameters in METHODS["ledgers", "Ledger"].items() if "moment" in parameters})
KEYWORD_ONLY = ("behind", "moment")
BUILTINS = set((
    "len range enumerate zip min max sum abs sorted reversed int str bool bytes list tuple dict set frozenset isinstance ord "
    "repr any all divmod iter next Exception ValueError TypeError KeyError IndexError LookupError ZeroDivisionError "
    "ArithmeticError OverflowError RuntimeError NotImplementedError AttributeError StopIteration NotImplemented").split())


class Interface(unittest.TestCase):
    def test_functions_and_classes_stand_in_their_files(self):
        for module, members in INTERFACE.items():
            loaded = importlib.import_module(f"hiddenrank.{module}")
            for name, parameters in members.items():
                member = getattr(loaded, name)
                self.assertEqual(member.__module__, f"hiddenrank.{module}", name)
                self.assertEqual(list(inspect.signature(member).parameters), parameters, name)

    def test_methods_stand_in_their_classes(self):
        for (module, owner), methods in METHODS.items():
            members = vars(getattr(importlib.import_module(f"hiddenrank.{module}"), owner))
            for name, parameters in methods.items():
                self.assertEqual(list(inspect.signature(members[name]).parameters), ["self"] + parameters, name)

    def test_default_values(self):
        for (module, owner, name), expected in DEFAULTS.items():
            member = vars(getattr(importlib.import_module(f"hiddenrank.{module}"), owner))[name]
            parameters = inspect.signature(member).parameters.values()
            found = {one.name: one.default for one in parameters if one.default is not one.empty}
            self.assertEqual(found, expected, name)

    def test_keyword_only_parameters(self):
        for (module, owner), methods in METHODS.items():
            members = vars(getattr(importlib.import_module(f"hiddenrank.{module}"), owner))
            for name in methods:
                for one in inspect.signature(members[name]).parameters.values():
                    alone = one.name in KEYWORD_ONLY or name == "rewrite" and one.name in ("condition", "effect")
                    self.assertEqual(one.kind, one.KEYWORD_ONLY if alone else one.POSITIONAL_OR_KEYWORD, name)

    def test_constants(self):
        for module, constants in CONSTANTS.items():
            loaded = importlib.import_module(f"hiddenrank.{module}")
            for name, value in constants.items():
                self.assertEqual(getattr(loaded, name), value, name)


class Language(unittest.TestCase):
    def test_sizes_and_characters(self):
        self.assertTrue(FILES)
        for path in FILES:
            lines = path.read_text(encoding="utf-8").split("\n")
            self.assertLess(len(lines), 400, path.name)
            for number, line in enumerate(lines, start=1):
                where = f"{path.name}:{number}"
                self.assertLessEqual(len(line), 120, where)
                self.assertRegex(line, r"\A[ -~]*\Z", where)
                self.assertNotRegex(line, BARRED_WORDS, where)

    def test_functions_names_and_imports(self):
        for path in FILES:
            for node in ast.walk(ast.parse(path.read_text(encoding="utf-8"))):
                where = f"{path.name}:{getattr(node, 'lineno', 0)}"
                self.assertNotIsInstance(node, (ast.Import, ast.Global, ast.AsyncFunctionDef, ast.Div), where)
                if isinstance(node, ast.FunctionDef):
                    self.assertLessEqual(node.end_lineno - node.lineno + 1, 40, where)
                    self.assertTrue(not node.name.startswith("_") or node.name.startswith("__"), where)
                if isinstance(node, ast.Name):
                    self.assertFalse(node.id.startswith("_"), where)
                    # Without other builtins and imports there is no clock, no randomness and no file.
                    self.assertTrue(node.id in BUILTINS or not hasattr(builtins, node.id), where)
                if isinstance(node, ast.ImportFrom):
                    self.assertTrue(node.level == 0 and node.module.startswith("hiddenrank."), where)
                if isinstance(node, ast.Constant) and isinstance(node.value, str):
                    self.assertNotIn("%", node.value, where)

    def test_no_name_is_both_a_method_and_an_attribute(self):
        methods, attributes = set(), set()
        for path in FILES:
            for node in ast.walk(ast.parse(path.read_text(encoding="utf-8"))):
                if isinstance(node, ast.ClassDef):
                    methods |= {one.name for one in node.body if isinstance(one, ast.FunctionDef)}
                if isinstance(node, ast.Attribute) and isinstance(node.ctx, ast.Store):
                    attributes.add(node.attr)
        self.assertTrue(methods and attributes)
        self.assertEqual(methods & attributes, set())

    def test_no_two_files_import_from_each_other(self):
        imported = {path.stem: set() for path in FILES}
        for path in FILES:
            for node in ast.walk(ast.parse(path.read_text(encoding="utf-8"))):
                if isinstance(node, ast.ImportFrom):
                    imported[path.stem].add(node.module.split(".")[1])
        while imported:
            free = [name for name in imported if not imported[name] & set(imported)]
            self.assertTrue(free, imported)
            for name in free:
                del imported[name]

    def test_no_local_name_is_an_import_or_a_builtin(self):
        for path in FILES:
            tree = ast.parse(path.read_text(encoding="utf-8"))
            taken = {one.name for node in ast.walk(tree) if isinstance(node, ast.ImportFrom) for one in node.names}
            taken |= {node.name for node in tree.body if isinstance(node, ast.ClassDef)}
            for node in ast.walk(tree):
                name = node.arg if isinstance(node, ast.arg) else None
                if isinstance(node, ast.Name) and isinstance(node.ctx, ast.Store):
                    name = node.id
                if name is not None:
                    self.assertTrue(name not in taken and not hasattr(builtins, name), f"{path.name}:{node.lineno}")


if __name__ == "__main__":
    unittest.main()
