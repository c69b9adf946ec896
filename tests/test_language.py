"""The package keeps to the part of Python that it may use, as far as its files show it plainly."""

import ast
import pathlib
import re
import unittest

ROOT = pathlib.Path(__file__).resolve().parent.parent
PACKAGE = ROOT / "actorplans"
FILES = sorted(PACKAGE.rglob("*.py"))

STATEMENTS = (
    ast.Assign, ast.AugAssign, ast.If, ast.While, ast.For, ast.Return, ast.Break, ast.Continue, ast.Pass, ast.Raise,
    ast.Try, ast.Expr, ast.FunctionDef, ast.ClassDef, ast.ImportFrom,
)
NOT_USED = (
    ast.Div, ast.MatMult, ast.SetComp, ast.DictComp, ast.GeneratorExp, ast.NamedExpr, ast.Starred, ast.Await,
    ast.Yield, ast.YieldFrom,
)
OWN_NAMES = set(
    "len range enumerate zip min max sum abs sorted reversed int str bool list tuple dict set frozenset isinstance ord "
    "repr any all divmod Exception ValueError TypeError KeyError IndexError LookupError ZeroDivisionError "
    "ArithmeticError OverflowError RuntimeError NotImplementedError AttributeError StopIteration".split()
)
METHODS = set(
    "append clear copy count endswith extend find get index insert isalnum isalpha isdigit islower isspace isupper "
    "items join keys ljust lower lstrip partition pop remove replace reverse rfind rjust rpartition rsplit rstrip "
    "setdefault split splitlines startswith strip update upper values zfill bit_length".split()
)
DUNDERS = {"__init__", "__eq__", "__repr__", "__str__", "__len__"}
WORDS = (
    r"\b(type|typing|typing_extensions|enum|Enum|IntEnum|StrEnum|Flag|IntFlag|Generic|Protocol|ABC|ABCMeta|namedtuple|"
    r"NamedTuple|TypedDict|TYPE_CHECKING|abstractmethod|register|mro|elements|open|input)\b|dataclass|overload|contextmanager"
)
BUILT_IN = set(dir(__import__("builtins")))


def trees():
    return [(path, ast.parse(path.read_text(encoding="utf-8"))) for path in FILES]


def nodes():
    return [(path, node) for path, tree in trees() for node in ast.walk(tree)]


def bound(node):
    """The names that the node binds, if any."""
    if isinstance(node, ast.Name) and isinstance(node.ctx, ast.Store):
        return [node.id]
    if isinstance(node, (ast.FunctionDef, ast.ClassDef)):
        return [node.name]
    if isinstance(node, ast.arg):
        return [node.arg]
    if isinstance(node, ast.ImportFrom):
        return [alias.asname or alias.name for alias in node.names]
    if isinstance(node, ast.Attribute) and isinstance(node.ctx, ast.Store):
        return [node.attr]
    return []


class Language(unittest.TestCase):

    def test_the_package_is_there(self):
        self.assertIn(PACKAGE / "__init__.py", FILES)
        self.assertIn(PACKAGE / "desk.py", FILES)

    def test_nothing_else_lies_in_the_package(self):
        for path in PACKAGE.rglob("*"):
            if "__pycache__" not in path.parts:
                self.assertTrue(path.is_dir() or path.suffix == ".py", path)
                self.assertRegex(path.stem, r"^([a-z][a-z0-9_]*|__init__|__main__)$")

    def test_signs_and_sizes(self):
        for path in FILES:
            text = path.read_text(encoding="utf-8")
            self.assertRegex(text, r"\A[ -~\n]*\Z", path)
            rows = text.split("\n")
            self.assertLessEqual(len(rows), 401, path)
            self.assertLessEqual(max(len(row) for row in rows), 120, path)

    def test_words_that_are_not_used(self):
        for path in FILES:
            self.assertIsNone(re.search(WORDS, path.read_text(encoding="utf-8")), path)

    def test_functions(self):
        for path, node in nodes():
            if isinstance(node, ast.FunctionDef):
                self.assertLessEqual(node.end_lineno - node.lineno + 1, 40, (path, node.name))
                given = node.args
                self.assertFalse(given.vararg or given.kwarg or given.kwonlyargs or given.posonlyargs, (path, node.name))
            if isinstance(node, (ast.FunctionDef, ast.ClassDef)):
                self.assertEqual(node.decorator_list, [], (path, node.name))

    def test_statements_and_expressions(self):
        for path, node in nodes():
            place = (path, getattr(node, "lineno", 0))
            if isinstance(node, ast.stmt):
                self.assertIsInstance(node, STATEMENTS, place)
            self.assertNotIsInstance(node, NOT_USED, place)
            if isinstance(node, ast.Assign):
                self.assertEqual(len(node.targets), 1, place)
            if isinstance(node, (ast.For, ast.While)):
                self.assertEqual(node.orelse, [], place)
            if isinstance(node, ast.Constant):
                self.assertNotIsInstance(node.value, (float, bytes, complex), place)
            if isinstance(node, ast.BinOp) and isinstance(node.op, ast.Pow):
                self.assertIsInstance(node.right, ast.Constant, place)

    def test_imports(self):
        for path, node in nodes():
            if isinstance(node, ast.ImportFrom):
                self.assertEqual(node.level, 0, path)
                self.assertTrue(node.module.startswith("actorplans."), path)
                source = ROOT / (node.module.replace(".", "/") + ".py")
                defined = [name for part in ast.parse(source.read_text()).body if not isinstance(part, ast.ImportFrom)
                           for name in bound(part) + [n for t in getattr(part, "targets", []) for n in bound(t)]]
                for alias in node.names:
                    self.assertIn(alias.name, defined, path)

    def test_names(self):
        for path, node in nodes():
            for name in bound(node):
                self.assertTrue(name in DUNDERS or re.match(r"^[A-Za-z][A-Za-z0-9_]*$", name), (path, name))
                self.assertNotIn(name, BUILT_IN, path)
            if isinstance(node, ast.Name) and node.id in BUILT_IN:
                self.assertIn(node.id, OWN_NAMES, path)

    def test_names_of_a_file_stand_once(self):
        for path, tree in trees():
            top = [name for part in tree.body for name in bound(part)]
            top += [name for part in tree.body for target in getattr(part, "targets", []) for name in bound(target)]
            self.assertEqual(len(top), len(set(top)), path)
            kept = {name for part in tree.body if isinstance(part, (ast.ClassDef, ast.ImportFrom)) for name in bound(part)}
            for function in [node for node in ast.walk(tree) if isinstance(node, ast.FunctionDef)]:
                inside = [name for node in ast.walk(function) if isinstance(node, (ast.Name, ast.arg)) for name in bound(node)]
                self.assertEqual(kept & set(inside), set(), (path, function.name))

    def test_no_two_files_draw_from_one_another(self):
        drawn = {
            "actorplans." + path.stem: {node.module for node in ast.walk(tree) if isinstance(node, ast.ImportFrom)}
            for path, tree in trees()
        }
        while drawn:
            free = [name for name, others in drawn.items() if not others & set(drawn)]
            self.assertNotEqual(free, [], drawn)
            drawn = {name: others for name, others in drawn.items() if name not in free}

    def test_lists_of_a_files_top_are_only_read(self):
        for path, tree in trees():
            top = {target.id for part in tree.body if isinstance(part, ast.Assign) for target in part.targets
                   if isinstance(part.value, (ast.List, ast.Dict))}
            for part in tree.body:
                if isinstance(part, ast.Assign) and isinstance(part.value, (ast.List, ast.Dict)):
                    within = [node for node in ast.walk(part.value) if isinstance(node, (ast.List, ast.Dict))]
                    self.assertEqual(len(within), 1, (path, part.lineno))
            for node in ast.walk(tree):
                if isinstance(node, ast.Subscript) and isinstance(node.value, ast.Name) and node.value.id in top:
                    self.assertIsInstance(node.ctx, ast.Load, (path, node.lineno))
                if isinstance(node, ast.Attribute) and isinstance(node.value, ast.Name) and node.value.id in top:
                    self.assertIn(node.attr, ("get", "items", "keys", "values"), (path, node.lineno))

    def test_sets_are_not_kept(self):
        for path, node in nodes():
            self.assertNotIsInstance(node, ast.Set, path)
            if isinstance(node, ast.Name):
                self.assertNotIn(node.id, ("set", "frozenset"), path)

    def test_methods(self):
        own = {part.name for path, node in nodes() if isinstance(node, ast.ClassDef) for part in node.body
               if isinstance(part, ast.FunctionDef)}
        values = {node.attr for path, node in nodes() if isinstance(node, ast.Attribute) and isinstance(node.ctx, ast.Store)}
        self.assertEqual(own & values, set())
        for path, node in nodes():
            if isinstance(node, ast.Call) and isinstance(node.func, ast.Attribute):
                self.assertIn(node.func.attr, own | METHODS, path)

    def test_is_stands_beside_none(self):
        for path, node in nodes():
            if isinstance(node, ast.Compare):
                for sign, right in zip(node.ops, node.comparators):
                    if isinstance(sign, (ast.Is, ast.IsNot)):
                        self.assertIsInstance(right, ast.Constant, path)
                        self.assertIn(repr(right.value), ("None", "True", "False"), path)


if __name__ == "__main__":
    unittest.main()
