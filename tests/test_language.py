"""Tests of the form of the package's files: those rules of its Python subset that can be read off the code at once."""

import ast
import builtins
import re
import unittest
from pathlib import Path

PACKAGE = Path(__file__).resolve().parent.parent / "ordermerge"
MOST_LINES_OF_A_FILE = 400
MOST_LINES_OF_A_FUNCTION = 40
LONGEST_LINE = 120
ALLOWED_BUILTINS = set(
    "len range enumerate zip min max sum abs sorted reversed int str bool list tuple dict set frozenset isinstance "
    "ord repr any all divmod iter next super property staticmethod classmethod object NotImplemented Exception "
    "ValueError TypeError KeyError IndexError LookupError ZeroDivisionError ArithmeticError OverflowError "
    "RuntimeError NotImplementedError bytes".split()
)
BARRED_WORDS = (
    r"\b(type|typing|typing_extensions|enum|Enum|IntEnum|StrEnum|Flag|IntFlag|Generic|Protocol|ABC|ABCMeta|"
    r"namedtuple|NamedTuple|TypedDict|TYPE_CHECKING|abstractmethod)\b|dataclass|overload|contextmanager"
)
ALLOWED_DOUBLE_UNDERSCORE = {"__init__", "__eq__", "__repr__", "__str__", "__len__"}


def trees():
    """Return a dict from the name of each module to its syntax tree."""
    return {path.stem: ast.parse(path.read_text()) for path in sorted(PACKAGE.glob("*.py"))}


def bound_names(tree):
    """Return the names of the functions, classes, parameters, variables and attributes that a module assigns."""
    names = []
    for node in ast.walk(tree):
        if isinstance(node, (ast.FunctionDef, ast.ClassDef)):
            names.append(node.name)
        elif isinstance(node, ast.arg):
            names.append(node.arg)
        elif isinstance(node, ast.Name) and isinstance(node.ctx, ast.Store):
            names.append(node.id)
        elif isinstance(node, ast.Attribute) and isinstance(node.ctx, ast.Store):
            names.append(node.attr)
    return names


def defined_at_module_level(tree):
    """Return the names of the functions, classes and values that a module itself defines."""
    names = [node.name for node in tree.body if isinstance(node, (ast.FunctionDef, ast.ClassDef))]
    return names + [node.targets[0].id for node in tree.body if isinstance(node, ast.Assign)]


def local_names(tree):
    """Return the names of the parameters and variables of functions and comprehensions."""
    outside = {id(node) for statement in tree.body if isinstance(statement, ast.Assign) for node in statement.targets}
    names = [node.arg for node in ast.walk(tree) if isinstance(node, ast.arg)]
    return names + [
        node.id for node in ast.walk(tree)
        if isinstance(node, ast.Name) and isinstance(node.ctx, ast.Store) and id(node) not in outside
    ]


def methods_of(tree):
    return [
        node.name for parent in tree.body if isinstance(parent, ast.ClassDef)
        for node in parent.body if isinstance(node, ast.FunctionDef)
    ]


def attributes_of(tree):
    return [
        node.attr for node in ast.walk(tree) if isinstance(node, ast.Attribute) and isinstance(node.ctx, ast.Store)
    ]


def tables_of(tree):
    """Return the names of the lists and dicts at module level."""
    return [
        node.targets[0].id for node in tree.body
        if isinstance(node, ast.Assign) and isinstance(node.value, (ast.List, ast.Dict))
    ]


def read_names(tree):
    """Return the names that are only read: those that are indexed, and those behind a sign such as `in`."""
    found = []
    for node in ast.walk(tree):
        if isinstance(node, ast.Subscript):
            found.append(node.value)
        if isinstance(node, ast.Compare):
            found += node.comparators
    return {id(node) for node in found}


def imported_modules(tree):
    return [node.module.split(".")[-1] for node in tree.body if isinstance(node, ast.ImportFrom)]


def reached_from(module, modules):
    """Return the set of the modules that a module imports, directly or through others."""
    reached, waiting = set(), imported_modules(modules[module])
    while waiting:
        name = waiting.pop()
        if name not in reached:
            reached.add(name)
            waiting += imported_modules(modules[name])
    return reached


class FilesTest(unittest.TestCase):
    def test_the_folder_contains_only_modules(self):
        found = [path.name for path in PACKAGE.iterdir() if path.name != "__pycache__"]
        self.assertIn("__init__.py", found)
        self.assertEqual([name for name in found if not re.fullmatch(r"[a-z0-9_]+\.py", name)], [])

    def test_lines_characters_and_words(self):
        for path in sorted(PACKAGE.glob("*.py")):
            text = path.read_text()
            with self.subTest(path=path.name):
                self.assertEqual(re.findall(r"[^ -~\n]", text), [])
                self.assertLessEqual(len(text.splitlines()), MOST_LINES_OF_A_FILE)
                self.assertLessEqual(max(len(line) for line in text.splitlines()), LONGEST_LINE)
                self.assertIsNone(re.search(BARRED_WORDS, text))

    def test_length_of_functions(self):
        for module, tree in trees().items():
            for node in ast.walk(tree):
                if isinstance(node, ast.FunctionDef):
                    with self.subTest(module=module, function=node.name):
                        self.assertLessEqual(node.end_lineno - node.lineno + 1, MOST_LINES_OF_A_FUNCTION)


class NamesTest(unittest.TestCase):
    def test_imports_name_the_defining_module_of_the_package(self):
        modules = trees()
        for module, tree in modules.items():
            for node in ast.walk(tree):
                self.assertNotIsInstance(node, ast.Import)
                if isinstance(node, ast.ImportFrom):
                    with self.subTest(module=module, imported=node.module):
                        package, name = node.module.split(".")
                        self.assertEqual((package, node.level), ("ordermerge", 0))
                        for alias in node.names:
                            self.assertIn(alias.name, defined_at_module_level(modules[name]))

    def test_no_module_imports_itself_through_others(self):
        modules = trees()
        for module in modules:
            self.assertNotIn(module, reached_from(module, modules))

    def test_local_names_have_no_other_meaning(self):
        for module, tree in trees().items():
            taken = set(dir(builtins)) | {node.name for node in tree.body if isinstance(node, ast.ClassDef)}
            for node in tree.body:
                if isinstance(node, ast.ImportFrom):
                    taken |= {alias.name for alias in node.names}
            with self.subTest(module=module):
                self.assertEqual(sorted(set(local_names(tree)) & taken), [])

    def test_no_name_is_a_method_and_an_attribute(self):
        methods = {name for tree in trees().values() for name in methods_of(tree)}
        attributes = {name for tree in trees().values() for name in attributes_of(tree)}
        self.assertIn("swap", methods)
        self.assertIn("position", attributes)
        self.assertEqual(sorted(methods & attributes), [])

    def test_tables_at_module_level_are_only_read(self):
        tables = {name for tree in trees().values() for name in tables_of(tree)}
        self.assertIn("ACTIONS", tables)
        for module, tree in trees().items():
            allowed = read_names(tree)
            with self.subTest(module=module):
                self.assertEqual([
                    node.lineno for node in ast.walk(tree) if isinstance(node, ast.Name) and node.id in tables
                    and isinstance(node.ctx, ast.Load) and id(node) not in allowed
                ], [])

    def test_names_do_not_begin_with_an_underscore(self):
        for module, tree in trees().items():
            names = [name for name in bound_names(tree) if name.startswith("_")]
            with self.subTest(module=module):
                self.assertEqual([name for name in names if name not in ALLOWED_DOUBLE_UNDERSCORE], [])

    def test_only_allowed_builtins_are_used(self):
        for module, tree in trees().items():
            used = {node.id for node in ast.walk(tree) if isinstance(node, ast.Name)}
            with self.subTest(module=module):
                self.assertEqual(sorted(used & set(dir(builtins)) - ALLOWED_BUILTINS), [])


if __name__ == "__main__":
    unittest.main()
