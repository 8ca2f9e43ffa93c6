"""What can be seen of the rules of the language from the texts of the package."""

import ast
import re
import unittest
from pathlib import Path

PACKAGE = Path(__file__).resolve().parent.parent / "wherewritten"

BUILTINS = """len range enumerate zip min max sum abs sorted reversed int str bool list tuple dict set isinstance ord repr any
all divmod type ValueError""".split()

METHODS = """append clear copy count endswith extend find get index insert isalnum isalpha isdigit islower isspace isupper
items join keys ljust lower lstrip partition pop remove replace reverse rfind rjust rpartition rsplit rstrip setdefault split
splitlines startswith strip update upper values zfill bit_length add discard""".split()

BARRED_NAMES = """mro elements open input law version_info with_traceback add_note register attrgetter breakpoint builtins
compile copyright credits delattr dir eval exec exit gc getattr globals hasattr help id importlib license locals methodcaller
os quit setattr super vars sys args map filter print iter next hash object format""".split()

BARRED_WORDS = re.compile(
    "\\b(typing|typing_extensions|enum|Enum|IntEnum|StrEnum|Flag|IntFlag|Generic|Protocol|ABC|ABCMeta|namedtuple|NamedTuple"
    "|TypedDict|TYPE_CHECKING|abstractmethod)\\b|dataclass|overload|contextmanager|_wall|_WallAttr")

STATEMENTS = (ast.Assign, ast.AugAssign, ast.If, ast.While, ast.For, ast.Return, ast.Break, ast.Continue, ast.Pass, ast.Raise,
              ast.Assert, ast.Delete, ast.Try, ast.Expr, ast.FunctionDef, ast.ClassDef, ast.ImportFrom)

AT_ONCE = ("list", "tuple", "dict", "sorted", "sum", "min", "max", "any", "all")


def files():
    return sorted(PACKAGE.glob("*.py"))


def trees():
    return [(path.name, ast.parse(path.read_text())) for path in files()]


def called(node):
    return node.func.id if isinstance(node, ast.Call) and isinstance(node.func, ast.Name) else None


def bound_names(tree):
    """All names that a tree binds anywhere, with their lines."""
    for node in ast.walk(tree):
        if isinstance(node, ast.Name) and isinstance(node.ctx, ast.Store):
            yield node.id, node.lineno
        elif isinstance(node, ast.arg):
            yield node.arg, node.lineno
        elif isinstance(node, (ast.FunctionDef, ast.ClassDef)):
            yield node.name, node.lineno
        elif isinstance(node, ast.ExceptHandler) and node.name:
            yield node.name, node.lineno
        elif isinstance(node, ast.alias):
            yield node.name, node.lineno


def defined_at_top(tree):
    for node in tree.body:
        if isinstance(node, (ast.FunctionDef, ast.ClassDef)):
            yield node.name
        elif isinstance(node, ast.Assign):
            yield node.targets[0].id


class TestLanguage(unittest.TestCase):
    def test_files(self):
        for path in PACKAGE.iterdir():
            if path.name != "__pycache__":
                self.assertRegex(path.name, "^[a-z_][a-z0-9_]*[.]py$")
        for path in files():
            text = path.read_text()
            lines = text.split("\n")
            self.assertRegex(text, "\\A[ -~\n]*\\Z", path.name)
            self.assertLessEqual(len(lines), 399, path.name)
            self.assertLessEqual(max(map(len, lines)), 120, path.name)
            self.assertIsNone(BARRED_WORDS.search(text), path.name)

    def test_imports(self):
        known = {f"wherewritten.{name[:-3]}": set(defined_at_top(tree)) for name, tree in trees()}
        uses = {}
        for name, tree in trees():
            uses[f"wherewritten.{name[:-3]}"] = []
            for node in ast.walk(tree):
                self.assertNotIsInstance(node, ast.Import, name)
                if isinstance(node, ast.ImportFrom):
                    self.assertEqual(node.level, 0)
                    self.assertIn(node, tree.body)
                    self.assertIn(node.module, known, name)
                    for alias in node.names:
                        self.assertIsNone(alias.asname)
                        self.assertIn(alias.name, known[node.module], name)
                    uses[f"wherewritten.{name[:-3]}"].append(node.module)
        left = dict(uses)
        while left:
            free = [name for name in left if not any(other in left for other in left[name])]
            self.assertTrue(free, f"these import each other: {sorted(left)}")
            for name in free:
                del left[name]

    def test_module_level(self):
        for name, tree in trees():
            for node in tree.body:
                is_docstring = isinstance(node, ast.Expr) and isinstance(node.value, ast.Constant)
                self.assertTrue(is_docstring or isinstance(node, (ast.ImportFrom, ast.FunctionDef, ast.ClassDef, ast.Assign)))
                if isinstance(node, ast.Assign):
                    self.assertEqual(len(node.targets), 1)
                    self.assertIsInstance(node.targets[0], ast.Name)
            bound = [*defined_at_top(tree)]
            self.assertEqual(len(bound), len(set(bound)), name)

    def test_statements_and_expressions(self):
        for name, tree in trees():
            for node in ast.walk(tree):
                at = (name, getattr(node, "lineno", 0))
                if isinstance(node, ast.stmt):
                    self.assertIsInstance(node, STATEMENTS, at)
                if isinstance(node, (ast.FunctionDef, ast.ClassDef)):
                    self.assertEqual(node.decorator_list, [], at)
                    self.assertLessEqual(node.end_lineno - node.lineno + 1, 40 if isinstance(node, ast.FunctionDef) else 399, at)
                    if node.name.startswith("__"):
                        self.assertEqual(node.name, "__init__", at)
                if isinstance(node, ast.Compare):
                    for operator, right in zip(node.ops, node.comparators):
                        if isinstance(operator, (ast.Is, ast.IsNot)):
                            self.assertIn(getattr(right, "value", 0), (None, True, False), at)
                if isinstance(node, ast.Constant):
                    self.assertNotIsInstance(node.value, (float, complex), at)
                    if isinstance(node.value, str):
                        self.assertNotIn("%", node.value, at)
                if isinstance(node, ast.BinOp):
                    self.assertNotIsInstance(node.op, (ast.Div, ast.Mod, ast.MatMult), at)
                self.assertNotIsInstance(node, (ast.Yield, ast.YieldFrom, ast.Await, ast.Global, ast.NamedExpr), at)
                if isinstance(node, ast.ExceptHandler):
                    self.assertTrue(node.type.id.endswith("Error") and node.type.id not in BUILTINS, at)

    def test_generators_are_gone_through_at_once(self):
        for name, tree in trees():
            allowed = set()
            for node in ast.walk(tree):
                if called(node) in AT_ONCE or (isinstance(node, ast.Call) and getattr(node.func, "attr", "") == "join"):
                    allowed.update(map(id, node.args))
            for node in ast.walk(tree):
                if isinstance(node, ast.GeneratorExp):
                    self.assertIn(id(node), allowed, (name, node.lineno))

    def test_sets_are_not_gone_through(self):
        for name, tree in trees():
            allowed = set()
            for node in ast.walk(tree):
                if called(node) in ("sorted", "len"):
                    allowed.update(map(id, node.args))
            for node in ast.walk(tree):
                if called(node) == "set" or isinstance(node, (ast.Set, ast.SetComp)):
                    self.assertIn(id(node), allowed, (name, node.lineno))

    def test_names(self):
        for name, tree in trees():
            bound = {found for found, _ in bound_names(tree)}
            for found, line in bound_names(tree):
                self.assertNotIn(found, BARRED_NAMES, (name, line))
                self.assertNotIn(found, BUILTINS, (name, line))
                self.assertRegex(found, "^(_?[A-Za-z][A-Za-z0-9_]*|_|__init__)$", (name, line))
            for node in ast.walk(tree):
                if isinstance(node, ast.Name) and isinstance(node.ctx, ast.Load) and node.id not in bound:
                    self.assertIn(node.id, BUILTINS, (name, node.lineno))
                if isinstance(node, ast.Name) and isinstance(node.ctx, ast.Load):
                    self.assertNotEqual(node.id, "_", (name, node.lineno))

    def test_no_local_has_the_name_of_a_class_or_an_import(self):
        for name, tree in trees():
            top = {alias.name for node in tree.body if isinstance(node, ast.ImportFrom) for alias in node.names}
            top |= {node.name for node in tree.body if isinstance(node, ast.ClassDef)}
            for node in ast.walk(tree):
                if isinstance(node, (ast.FunctionDef, ast.Lambda)):
                    body = node.body if isinstance(node.body, list) else [node.body]
                    inner = [arg.arg for arg in node.args.args] + [found for part in body for found, _ in bound_names(part)]
                    self.assertEqual([found for found in inner if found in top], [], (name, node.lineno))

    def test_methods_and_attributes(self):
        methods, attributes = set(), set()
        for _, tree in trees():
            for node in ast.walk(tree):
                if isinstance(node, ast.ClassDef):
                    mine = {part.name for part in node.body if isinstance(part, ast.FunctionDef)}
                    held = {part.attr for part in ast.walk(node)
                            if isinstance(part, ast.Attribute) and isinstance(part.ctx, ast.Store)}
                    self.assertEqual(mine & held, set(), node.name)
                    self.assertEqual((mine | held) & set(METHODS), set(), node.name)
                    methods |= mine
                    attributes |= held
        for name, tree in trees():
            for node in ast.walk(tree):
                if isinstance(node, ast.Call) and isinstance(node.func, ast.Attribute):
                    self.assertIn(node.func.attr, {*METHODS, *methods}, (name, node.lineno))
                    if node.func.attr in METHODS:
                        self.assertEqual(node.keywords, [], (name, node.lineno))
                elif isinstance(node, ast.Attribute):
                    self.assertIn(node.attr, {*attributes, *METHODS, *methods}, (name, node.lineno))


if __name__ == "__main__":
    unittest.main()
