"""The rules of the language subset that a text or its syntax tree shows plainly."""

import ast
import builtins
import re
import unittest
from pathlib import Path

PACKAGE = Path(__file__).resolve().parent.parent / "mergebudget"
ALLOWED_BUILTINS = set(
    "len range enumerate zip min max sum abs sorted reversed int str bool bytes list tuple dict set isinstance ord "
    "repr any all divmod iter next Exception ValueError TypeError KeyError IndexError LookupError ZeroDivisionError "
    "ArithmeticError OverflowError RuntimeError NotImplementedError AttributeError StopIteration NotImplemented "
    "property staticmethod classmethod super".split()
)
BARRED_WORDS = re.compile(
    r"\b(type|typing|typing_extensions|enum|Enum|IntEnum|StrEnum|Flag|IntFlag|Generic|Protocol|ABC|ABCMeta|namedtuple|"
    r"NamedTuple|TypedDict|TYPE_CHECKING|abstractmethod)\b|dataclass|overload|contextmanager"
)
BARRED_NAMES = set("register mro elements open input version_info with_traceback add_note".split())
BARRED_NODES = (
    ast.Global, ast.AsyncFunctionDef, ast.AsyncFor, ast.AsyncWith, ast.Await, ast.Import, ast.Div, ast.MatMult,
)  # fmt: skip
BUILTIN_METHODS = set(
    "append clear copy count endswith extend find get index insert isalnum isalpha isdigit islower isspace isupper "
    "items join keys ljust lower lstrip partition pop remove replace reverse rfind rjust rpartition rsplit rstrip "
    "setdefault split splitlines startswith strip update upper values zfill bit_length".split()
)


def files():
    return sorted(PACKAGE.glob("*.py"))


def tree_in(path):
    return ast.parse(path.read_text(encoding="utf-8"))


def defined_in(path):
    """The names that a file defines at module level, without its imports."""
    found = []
    for node in tree_in(path).body:
        if isinstance(node, (ast.FunctionDef, ast.ClassDef)):
            found.append(node.name)
        elif isinstance(node, ast.Assign):
            found.extend(target.id for target in node.targets)
    return found


def classes():
    """All classes of the package."""
    return [node for path in files() for node in ast.walk(tree_in(path)) if isinstance(node, ast.ClassDef)]


def methods_of(cls):
    return [node for node in cls.body if isinstance(node, ast.FunctionDef)]


def assigned_attributes(tree):
    """The names of all attributes that are assigned in a tree."""
    nodes = [node for node in ast.walk(tree) if isinstance(node, ast.Attribute)]
    return {node.attr for node in nodes if isinstance(node.ctx, ast.Store)}


def bound_names(tree):
    """Every name that is given a meaning in a file."""
    for node in ast.walk(tree):
        if isinstance(node, (ast.FunctionDef, ast.ClassDef)):
            yield node.name
        elif isinstance(node, ast.arg):
            yield node.arg
        elif isinstance(node, ast.alias):
            yield node.asname or node.name
        elif isinstance(node, ast.Name) and not isinstance(node.ctx, ast.Load):
            yield node.id
        elif isinstance(node, ast.Attribute) and not isinstance(node.ctx, ast.Load):
            yield node.attr


class LanguageTest(unittest.TestCase):
    def test_folder_holds_plain_files_only(self):
        for path in PACKAGE.iterdir():
            self.assertTrue(path.name == "__pycache__" or re.fullmatch(r"[a-z][a-z0-9_]*\.py|__init__\.py", path.name))
        self.assertTrue((PACKAGE / "__init__.py").is_file())

    def test_characters_and_sizes(self):
        for path in files():
            text = path.read_text(encoding="utf-8")
            self.assertTrue(all(" " <= sign <= "~" or sign == "\n" for sign in text), path.name)
            self.assertLessEqual(len(text.split("\n")), 400, path.name)
            self.assertLessEqual(max(map(len, text.split("\n"))), 120, path.name)
            for node in ast.walk(tree_in(path)):
                if isinstance(node, ast.FunctionDef):
                    self.assertLessEqual(node.end_lineno - node.lineno + 1, 40, node.name)

    def test_barred_words(self):
        for path in files():
            self.assertIsNone(BARRED_WORDS.search(path.read_text(encoding="utf-8")), path.name)

    def test_module_level(self):
        kinds = (ast.ImportFrom, ast.FunctionDef, ast.ClassDef, ast.Assign)
        for path in files():
            body = tree_in(path).body
            docstring = isinstance(body[0], ast.Expr) and isinstance(body[0].value, ast.Constant)
            for node in body[1:] if docstring else body:
                self.assertIsInstance(node, kinds, path.name)
            names = defined_in(path) + [
                alias.asname or alias.name for node in body if isinstance(node, ast.ImportFrom) for alias in node.names
            ]
            self.assertEqual(len(names), len(set(names)), path.name)

    def test_imports_name_the_defining_file(self):
        known = {f"mergebudget.{path.stem}": path for path in files()}
        for path in files():
            for node in ast.walk(tree_in(path)):
                if isinstance(node, ast.ImportFrom):
                    self.assertEqual(node.level, 0)
                    self.assertIn(node.module, known)
                    for alias in node.names:
                        self.assertIn(alias.name, defined_in(known[node.module]))

    def test_imports_run_in_no_circle(self):
        waiting = {}
        for path in files():
            imports = [node for node in ast.walk(tree_in(path)) if isinstance(node, ast.ImportFrom)]
            waiting[f"mergebudget.{path.stem}"] = {node.module for node in imports}
        while waiting:
            ready = [name for name in waiting if not waiting[name] & set(waiting)]
            self.assertTrue(ready, sorted(waiting))
            for name in ready:
                del waiting[name]

    def test_names(self):
        for path in files():
            for name in bound_names(tree_in(path)):
                self.assertTrue(re.fullmatch(r"[A-Za-z][A-Za-z0-9_]*|__[a-z]+__", name), name)
                self.assertNotIn(name, BARRED_NAMES)

    def test_imports_and_classes_keep_their_names(self):
        for path in files():
            tree = tree_in(path)
            imports = [alias.name for node in tree.body if isinstance(node, ast.ImportFrom) for alias in node.names]
            classes = [node.name for node in tree.body if isinstance(node, ast.ClassDef)]
            names = [node for node in ast.walk(tree) if isinstance(node, ast.Name)]
            local = [node.arg for node in ast.walk(tree) if isinstance(node, ast.arg)]
            local += [node.id for node in names if isinstance(node.ctx, ast.Store)]
            self.assertEqual(sorted(set(imports + classes) & set(local)), [], path.name)

    def test_each_import_is_used(self):
        for path in files():
            tree = tree_in(path)
            read = {node.id for node in ast.walk(tree) if isinstance(node, ast.Name)}
            for node in tree.body:
                if isinstance(node, ast.ImportFrom):
                    self.assertEqual([alias.name for alias in node.names if alias.name not in read], [], path.name)

    def test_builtins(self):
        for path in files():
            for node in ast.walk(tree_in(path)):
                if isinstance(node, ast.Name) and node.id in dir(builtins):
                    self.assertIn(node.id, ALLOWED_BUILTINS)
                    self.assertIsInstance(node.ctx, ast.Load, node.id)
                if isinstance(node, ast.arg):
                    self.assertNotIn(node.arg, dir(builtins))

    def test_statements_and_values(self):
        for path in files():
            for node in ast.walk(tree_in(path)):
                self.assertNotIsInstance(node, BARRED_NODES, path.name)
                if isinstance(node, ast.Constant):
                    self.assertNotIsInstance(node.value, (float, complex))
                    self.assertNotIn("%", node.value if isinstance(node.value, str) else "")
                if isinstance(node, ast.Compare) and any(isinstance(sign, (ast.Is, ast.IsNot)) for sign in node.ops):
                    for other in node.comparators:
                        self.assertIn(ast.unparse(other), ("None", "True", "False"), path.name)

    def test_no_name_is_a_method_and_an_attribute(self):
        methods = {method.name for cls in classes() for method in methods_of(cls)}
        attributes = set().union(*[assigned_attributes(tree_in(path)) for path in files()])
        self.assertEqual(methods & attributes, set())
        for path in files():
            for node in ast.walk(tree_in(path)):
                if isinstance(node, ast.Attribute) and isinstance(node.ctx, ast.Load):
                    self.assertIn(node.attr, methods | attributes | BUILTIN_METHODS, path.name)

    def test_methods_stand_once_in_their_class(self):
        for cls in classes():
            names = [method.name for method in methods_of(cls)]
            self.assertEqual(len(names), len(set(names)), cls.name)
            for name in names:
                if name.startswith("_"):
                    self.assertIn(name, ("__init__", "__eq__", "__len__"))

    def test_comparison_and_length_change_nothing(self):
        barred = (ast.Assign, ast.AugAssign, ast.AnnAssign, ast.NamedExpr, ast.Delete, ast.For, ast.While)
        for cls in classes():
            for method in methods_of(cls):
                if method.name in ("__eq__", "__len__"):
                    for node in ast.walk(method):
                        self.assertNotIsInstance(node, barred, cls.name)
                    self.assertIsInstance(method.body[-1], ast.Return)

    def test_lists_instead_of_generators(self):
        for path in files():
            for node in ast.walk(tree_in(path)):
                self.assertNotIsInstance(node, (ast.GeneratorExp, ast.Yield, ast.YieldFrom, ast.SetComp), path.name)

    def test_keywords_of_builtins(self):
        allowed = {"min": {"default", "key"}, "max": {"default", "key"}, "sorted": {"key", "reverse"}, "sum": {"start"}}
        for path in files():
            for node in ast.walk(tree_in(path)):
                if isinstance(node, ast.Call) and isinstance(node.func, ast.Name) and node.func.id in dir(builtins):
                    names = {keyword.arg for keyword in node.keywords}
                    self.assertLessEqual(names, allowed.get(node.func.id, set()), path.name)

    def test_tables_of_the_module_level_are_only_read(self):
        for path in files():
            tree = tree_in(path)
            tables = set()
            for node in tree.body:
                if isinstance(node, ast.Assign) and isinstance(node.value, (ast.Dict, ast.List)):
                    tables.add(node.targets[0].id)
                    for part in ast.walk(node.value):
                        self.assertTrue(part is node.value or not isinstance(part, (ast.Dict, ast.List)), path.name)
            for node in ast.walk(tree):
                if isinstance(node, ast.Subscript) and not isinstance(node.ctx, ast.Load):
                    self.assertNotIn(ast.unparse(node.value), tables)


if __name__ == "__main__":
    unittest.main()
