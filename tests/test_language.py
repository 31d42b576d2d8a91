"""The package keeps to the subset of Python that it is written in, as far as a look at its text can tell."""

import ast
import builtins
import os
import re
import unittest

ROOT = os.path.dirname(os.path.dirname(os.path.abspath(__file__)))
PACKAGE = os.path.join(ROOT, "kindsworn")

ALLOWED_BUILTINS = set("""
len range enumerate zip min max sum abs sorted reversed int str bool bytes list tuple dict set frozenset isinstance ord
repr any all divmod pow ValueError KeyError IndexError LookupError map iter next
""".split())
ALLOWED_METHODS = set("""
append clear copy count endswith extend find get index insert isalnum isalpha isdigit islower isspace isupper items
join keys ljust lower lstrip partition pop remove replace reverse rfind rjust rpartition rsplit rstrip setdefault split
splitlines startswith strip update upper values zfill bit_length add discard
""".split())
BARRED_NAMES = set("""
mro elements open input law version_info with_traceback add_note register attrgetter breakpoint builtins compile
copyright credits delattr dir eval exec exit gc globals help id importlib license locals methodcaller os quit super
vars _record _cold _outside _written_out _member_names _tuplegetter
""".split())
BARRED_WORDS = re.compile(
    r"\b(type|typing|typing_extensions|enum|Enum|IntEnum|StrEnum|Flag|IntFlag|Generic|Protocol|ABC|ABCMeta|namedtuple"
    r"|NamedTuple|TypedDict|TYPE_CHECKING|abstractmethod)\b|dataclass|overload|contextmanager|_wall|_WallAttr")


def sources():
    """The names and texts of all files of the package."""
    found = {}
    for name in sorted(os.listdir(PACKAGE)):
        if name != "__pycache__":
            with open(os.path.join(PACKAGE, name), encoding="utf-8") as file:
                found[name] = file.read()
    return found


SOURCES = sources()
TREES = {name: ast.parse(text) for name, text in SOURCES.items()}


def bound_names(node):
    """All names that a tree assigns, however, with their rows."""
    for one in ast.walk(node):
        if isinstance(one, ast.Name) and isinstance(one.ctx, (ast.Store, ast.Del)):
            yield one.id, one.lineno
        elif isinstance(one, ast.arg):
            yield one.arg, one.lineno
        elif isinstance(one, (ast.FunctionDef, ast.ClassDef)):
            yield one.name, one.lineno


class LanguageTest(unittest.TestCase):
    def test_files(self):
        for name, text in SOURCES.items():
            with self.subTest(name):
                self.assertRegex(name, r"\A[a-z_0-9]+\.py\Z")
                self.assertLessEqual(len(text.splitlines()), 399)
                self.assertTrue(all(sign == "\n" or " " <= sign <= "~" for sign in text))
                self.assertLessEqual(max([len(line) for line in text.split("\n")]), 120)
                self.assertTrue(text == "" or text.endswith("\n"))
        self.assertEqual(SOURCES["__init__.py"], "")

    def test_functions_are_short(self):
        for name, tree in TREES.items():
            for node in ast.walk(tree):
                if isinstance(node, ast.FunctionDef):
                    self.assertLessEqual(node.end_lineno - node.lineno + 1, 40, node.name)
                    self.assertEqual(node.decorator_list, [])

    def test_nothing_that_is_not_allowed(self):
        barred = (
            ast.GeneratorExp, ast.Yield, ast.YieldFrom, ast.AsyncFunctionDef, ast.Await, ast.Global, ast.Nonlocal,
            ast.Div, ast.MatMult, ast.Import, ast.With, ast.Match, ast.NamedExpr, ast.AnnAssign, ast.Assert,
        )
        for name, tree in TREES.items():
            for node in ast.walk(tree):
                self.assertNotIsInstance(node, barred, f"{name}:{getattr(node, 'lineno', 0)}")
                if isinstance(node, ast.Constant):
                    self.assertIsInstance(node.value, (str, int, type(None)), f"{name}:{node.lineno}")
                    self.assertNotIn("%", str(node.value))
                if isinstance(node, ast.Compare):
                    for sign, other in zip(node.ops, node.comparators):
                        if isinstance(sign, (ast.Is, ast.IsNot)):
                            self.assertIn(ast.unparse(other), ("None", "True", "False"))

    def test_module_level(self):
        for name, tree in TREES.items():
            met = set()
            for at, node in enumerate(tree.body):
                if isinstance(node, ast.Expr):
                    self.assertEqual(at, 0)
                    self.assertIsInstance(node.value.value, str)
                    continue
                self.assertIsInstance(node, (ast.ImportFrom, ast.FunctionDef, ast.ClassDef, ast.Assign))
                if isinstance(node, ast.ImportFrom):
                    mine = [alias.name for alias in node.names]
                elif isinstance(node, ast.Assign):
                    self.assertEqual(len(node.targets), 1)
                    mine = [node.targets[0].id]
                else:
                    mine = [node.name]
                for one in mine:
                    self.assertNotIn(one, met)
                    met.add(one)

    def test_imports(self):
        uses = {}
        for name, tree in TREES.items():
            uses[name] = []
            for node in ast.walk(tree):
                if not isinstance(node, ast.ImportFrom):
                    continue
                self.assertIn(node, tree.body)
                self.assertEqual(node.level, 0)
                self.assertRegex(node.module, r"\Akindsworn\.[a-z]+\Z")
                other = node.module.split(".")[1] + ".py"
                uses[name].append(other)
                own = []
                for one in TREES[other].body:
                    own.extend([one.name] if isinstance(one, (ast.FunctionDef, ast.ClassDef)) else [])
                    own.extend([one.targets[0].id] if isinstance(one, ast.Assign) else [])
                for alias in node.names:
                    self.assertIsNone(alias.asname)
                    self.assertIn(alias.name, own, f"{name} imports {alias.name}")
                    loads = [one for one in ast.walk(tree) if isinstance(one, ast.Name) and one.id == alias.name]
                    self.assertTrue(loads, f"{name} does not use {alias.name}")
        while uses:
            ends = [name for name in uses if not [other for other in uses[name] if other in uses]]
            self.assertTrue(ends, f"a ring of imports among {sorted(uses)}")
            for name in ends:
                del uses[name]

    def test_names(self):
        for name, tree in TREES.items():
            imported = {alias.name for node in ast.walk(tree) if isinstance(node, ast.ImportFrom)
                        for alias in node.names}
            classes = {node.name for node in tree.body if isinstance(node, ast.ClassDef)}
            top = {node.name for node in tree.body if isinstance(node, ast.FunctionDef)}
            top |= {node.targets[0].id for node in tree.body if isinstance(node, ast.Assign)}
            for node in ast.walk(tree):
                if isinstance(node, ast.FunctionDef):
                    for one, row in bound_names(ast.Module(body=[node.args] + node.body, type_ignores=[])):
                        self.assertNotIn(one, imported | classes | top, f"{name}:{row}")
            handlers = {node.name for node in ast.walk(tree) if isinstance(node, ast.ExceptHandler)}
            for one, row in bound_names(tree):
                method = one.startswith("__") and one.endswith("__")
                self.assertTrue(method or re.fullmatch(r"_|_?[A-Za-z][A-Za-z0-9_]*", one), f"{name}:{row} {one}")
                self.assertTrue(method or one == "_" or not hasattr(builtins, one), f"{name}:{row} {one}")
                self.assertNotIn(one, BARRED_NAMES, f"{name}:{row}")
            known = imported | classes | top | {one for one, _ in bound_names(tree)} | handlers | ALLOWED_BUILTINS
            for node in ast.walk(tree):
                if isinstance(node, ast.Name) and isinstance(node.ctx, ast.Load):
                    self.assertIn(node.id, known, f"{name}:{node.lineno}")
                    self.assertNotEqual(node.id, "_")

    def test_handlers(self):
        """Only errors of the package are caught, each by its name, and a name for one means nothing else there."""
        errors = {node.name for node in TREES["errors.py"].body if isinstance(node, ast.ClassDef)}
        for name, tree in TREES.items():
            for function in ast.walk(tree):
                if not isinstance(function, ast.FunctionDef):
                    continue
                named = []
                for node in ast.walk(function):
                    if isinstance(node, ast.Try):
                        self.assertEqual([node.orelse, node.finalbody], [[], []])
                    if isinstance(node, ast.ExceptHandler):
                        self.assertIsInstance(node.type, ast.Name)
                        self.assertIn(node.type.id, errors - {"SwornError"}, f"{name}:{node.lineno}")
                        named.extend([] if node.name is None else [node.name])
                self.assertEqual(len(named), len(set(named)), name)
                others = {one for one, _ in bound_names(function)}
                self.assertEqual(others & set(named), set(), name)

    def test_one_eq(self):
        """__eq__ asks first whether the other object is of its class; no other double-underscore method is there."""
        for name, tree in TREES.items():
            for node in ast.walk(tree):
                if isinstance(node, ast.ClassDef):
                    for one in node.body:
                        if isinstance(one, ast.FunctionDef) and one.name.startswith("__"):
                            self.assertIn(one.name, ("__init__", "__eq__"))
                            if one.name == "__eq__":
                                self.assertTrue(ast.unparse(one.body[0]).startswith(f"return isinstance(other, {node.name}) and "), name)

    def test_methods_and_attributes(self):
        own = set()
        attributes = set()
        for tree in TREES.values():
            for node in ast.walk(tree):
                if isinstance(node, ast.ClassDef):
                    own |= {one.name for one in node.body if isinstance(one, ast.FunctionDef)}
                if isinstance(node, ast.Attribute) and isinstance(node.ctx, ast.Store):
                    attributes.add(node.attr)
        self.assertEqual(own & attributes, set())
        builtin = set(dir(str)) | set(dir(int)) | set(dir(list)) | set(dir(dict)) | set(dir(set)) | set(dir(bytes))
        self.assertEqual((own - {"__init__", "__eq__"}) & builtin, set())
        self.assertLessEqual(attributes & builtin, {"index", "count"})
        for name, tree in TREES.items():
            calls = {id(node.func) for node in ast.walk(tree) if isinstance(node, ast.Call)}
            for node in ast.walk(tree):
                if isinstance(node, ast.Attribute) and isinstance(node.ctx, ast.Load):
                    allowed = ALLOWED_METHODS | own if id(node) in calls else attributes
                    self.assertIn(node.attr, allowed, f"{name}:{node.lineno}")

    def test_tables_stay_where_they_are(self):
        tables = set()
        for tree in TREES.values():
            for node in tree.body:
                if isinstance(node, ast.Assign) and isinstance(node.value, (ast.Dict, ast.List)):
                    tables.add(node.targets[0].id)
                    inside = [one for one in ast.walk(node.value) if isinstance(one, (ast.Dict, ast.List))]
                    self.assertEqual(len(inside), 1)
        for name, tree in TREES.items():
            fine = set()
            for node in ast.walk(tree):
                if isinstance(node, ast.Subscript):
                    fine.add(id(node.value))
                if isinstance(node, ast.Attribute) and node.attr == "get":
                    fine.add(id(node.value))
                if isinstance(node, ast.Compare):
                    fine |= {id(one) for sign, one in zip(node.ops, node.comparators)
                             if isinstance(sign, (ast.In, ast.NotIn))}
            for node in ast.walk(tree):
                if isinstance(node, ast.Name) and isinstance(node.ctx, ast.Load) and node.id in tables:
                    self.assertIn(id(node), fine, f"{name}:{node.lineno}")

    def test_barred_words(self):
        for name, tree in TREES.items():
            for node in ast.walk(tree):
                for text in [getattr(node, field, None) for field in ("id", "attr", "arg", "name")]:
                    if isinstance(text, str):
                        self.assertIsNone(BARRED_WORDS.search(text), f"{name} {text}")


if __name__ == "__main__":
    unittest.main()
