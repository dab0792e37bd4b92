"""The package keeps to the part of Python that it is to be written in (the rules that can be looked at by a walk)."""

import ast
import builtins
import pathlib
import re
import unittest

PACKAGE = pathlib.Path(__file__).resolve().parent.parent / "slipcatch"
STATEMENTS = (
    ast.Assign, ast.AugAssign, ast.If, ast.While, ast.For, ast.Return, ast.Break, ast.Continue, ast.Pass, ast.Raise,
    ast.Try, ast.Expr, ast.FunctionDef, ast.ClassDef, ast.ImportFrom,
)
EXPRESSIONS = (
    ast.Constant, ast.List, ast.Tuple, ast.Dict, ast.Set, ast.BinOp, ast.UnaryOp, ast.BoolOp, ast.Compare, ast.IfExp,
    ast.Call, ast.Attribute, ast.Subscript, ast.Slice, ast.ListComp, ast.JoinedStr, ast.FormattedValue, ast.Name,
    ast.Lambda,
)
BUILT_IN = set(
    "len range enumerate zip min max sum abs sorted reversed int str bool list tuple dict set frozenset isinstance ord"
    " repr any all divmod Exception ValueError TypeError KeyError IndexError LookupError ZeroDivisionError"
    " ArithmeticError OverflowError RuntimeError NotImplementedError AttributeError StopIteration".split()
)
METHODS = set(
    "append clear copy count endswith extend find get index insert isalnum isalpha isdigit islower isspace isupper"
    " items join keys ljust lower lstrip partition pop remove replace reverse rfind rjust rpartition rsplit rstrip"
    " setdefault split splitlines startswith strip update upper values zfill bit_length".split()
)
NO_WORDS = re.compile(
    r"\b(type|typing|typing_extensions|enum|Enum|IntEnum|StrEnum|Flag|IntFlag|Generic|Protocol|ABC|ABCMeta|namedtuple"
    r"|NamedTuple|TypedDict|TYPE_CHECKING|abstractmethod)\b|dataclass|overload|contextmanager"
)
NO_NAMES = set("register mro elements open input version_info with_traceback add_note format format_map".split())
DUNDERS = set("__init__ __eq__ __repr__ __str__ __len__ __all__ __version__".split())
WALKED = ("zip", "enumerate", "reversed", "range")
WALKERS = ("list", "tuple", "dict", "sorted", "sum", "any", "all", "enumerate", "zip", "min", "max")


def sources():
    for path in sorted(PACKAGE.glob("*.py")):
        yield path, path.read_text(encoding="utf-8")


def trees():
    for path, text in sources():
        yield path, ast.parse(text)


def bound_names(node):
    """Those that are bound in a function or class, its own parameters with them."""
    names = {part.arg for part in ast.walk(node) if isinstance(part, ast.arg)}
    names |= {part.id for part in ast.walk(node) if isinstance(part, ast.Name) and isinstance(part.ctx, ast.Store)}
    return names | {part.name for part in ast.walk(node) if isinstance(part, ast.ExceptHandler) and part.name}


def top_names(tree):
    names = set()
    for node in tree.body:
        if isinstance(node, (ast.FunctionDef, ast.ClassDef)):
            names.add(node.name)
        elif isinstance(node, ast.Assign):
            names.add(node.targets[0].id)
        elif isinstance(node, ast.ImportFrom):
            names |= {alias.name for alias in node.names}
    return names


class LanguageTest(unittest.TestCase):
    def test_only_plain_files_lie_in_the_package(self):
        names = [path.name for path in PACKAGE.iterdir() if path.name != "__pycache__"]
        self.assertIn("__init__.py", names)
        for name in names:
            self.assertRegex(name, r"^([a-z][a-z0-9_]*|__init__|__main__)\.py$")

    def test_signs_and_sizes(self):
        for path, text in sources():
            self.assertRegex(text, r"\A[ -~\n]*\Z", path)
            self.assertIsNone(NO_WORDS.search(text), path)
            lines = text.split("\n")
            self.assertLessEqual(len(lines), 401, path)
            self.assertLessEqual(max(len(line) for line in lines), 120, path)

    def test_functions_are_short_and_plain(self):
        for path, tree in trees():
            for node in ast.walk(tree):
                if isinstance(node, ast.FunctionDef):
                    self.assertLessEqual(node.end_lineno - node.lineno + 1, 40, (path, node.name))
                    self.assertEqual(node.decorator_list, [])
                    self.assertIsNone(node.returns)
                    arguments = node.args
                    self.assertFalse(arguments.vararg or arguments.kwarg or arguments.kwonlyargs or arguments.posonlyargs)
                if isinstance(node, ast.arg):
                    self.assertIsNone(node.annotation)

    def test_imports(self):
        drawn = {}
        for path, tree in trees():
            drawn[path.stem] = []
            for node in ast.walk(tree):
                self.assertNotIsInstance(node, ast.Import, path)
                if isinstance(node, ast.ImportFrom):
                    self.assertIn(node, tree.body)
                    self.assertEqual(node.level, 0)
                    self.assertRegex(node.module, r"^slipcatch\.[a-z]+$")
                    module = node.module.split(".")[1]
                    drawn[path.stem].append(module)
                    defined = ast.parse((PACKAGE / (module + ".py")).read_text(encoding="utf-8"))
                    imported = {alias.name for part in defined.body if isinstance(part, ast.ImportFrom) for alias in part.names}
                    for alias in node.names:
                        self.assertIsNone(alias.asname)
                        self.assertIn(alias.name, top_names(defined) - imported)
        done = []
        while len(done) < len(drawn):
            ready = [name for name in drawn if name not in done and all(other in done for other in drawn[name])]
            self.assertNotEqual(ready, [], "files draw from one another")
            done.extend(ready)

    def test_the_top_of_a_module(self):
        for path, tree in trees():
            self.assertIsNotNone(ast.get_docstring(tree), path)
            bound = []
            for node in tree.body[1:]:
                self.assertIsInstance(node, (ast.ImportFrom, ast.FunctionDef, ast.ClassDef, ast.Assign), path)
                if isinstance(node, ast.Assign):
                    bound.append(node.targets[0].id)
                    self.assertFalse([part for part in ast.walk(node.value) if isinstance(part, (ast.Call, ast.Set))])
                    within = [part for part in ast.walk(node.value) if part is not node.value]
                    self.assertFalse([part for part in within if isinstance(part, (ast.List, ast.Dict))])
                elif not isinstance(node, ast.ImportFrom):
                    bound.append(node.name)
            self.assertEqual(len(bound), len(set(bound)), path)

    def test_statements_and_expressions(self):
        for path, tree in trees():
            for node in ast.walk(tree):
                where = (path.name, getattr(node, "lineno", None))
                if isinstance(node, ast.stmt):
                    self.assertIsInstance(node, STATEMENTS, where)
                if isinstance(node, ast.expr):
                    self.assertIsInstance(node, EXPRESSIONS, where)
                if isinstance(node, ast.Expr) and node is not tree.body[0]:
                    self.assertIsInstance(node.value, ast.Call, where)
                if isinstance(node, ast.Assign):
                    self.assertEqual(len(node.targets), 1, where)
                if isinstance(node, (ast.For, ast.While)):
                    self.assertEqual(node.orelse, [], where)
                if isinstance(node, ast.Try):
                    self.assertEqual(node.finalbody, [], where)
                if isinstance(node, ast.ListComp):
                    self.assertEqual(len(node.generators), 1, where)
                    self.assertLessEqual(len(node.generators[0].ifs), 1, where)
                if isinstance(node, (ast.BinOp, ast.AugAssign)):
                    self.assertNotIsInstance(node.op, (ast.Div, ast.MatMult, ast.Pow), where)
                if isinstance(node, ast.FormattedValue):
                    self.assertIsInstance(node.value, ast.Name, where)
                    self.assertIsNone(node.format_spec, where)
                if isinstance(node, ast.Constant):
                    self.assertTrue(node.value is None or node.value.__class__ in (int, str, bool), where)
                    self.assertNotIn("%", str(node.value), where)
                if isinstance(node, ast.Compare) and [op for op in node.ops if isinstance(op, (ast.Is, ast.IsNot))]:
                    self.assertIn(repr(node.comparators[-1].value), ("None", "True", "False"), where)

    def test_names(self):
        for path, tree in trees():
            top = top_names(tree)
            classes = {node.name for node in tree.body if isinstance(node, ast.ClassDef)}
            imported = {alias.name for node in tree.body if isinstance(node, ast.ImportFrom) for alias in node.names}
            for node in tree.body:
                bound = bound_names(node) if isinstance(node, (ast.FunctionDef, ast.ClassDef)) else set()
                for name in bound:
                    self.assertRegex(name, r"^[a-zA-Z][a-zA-Z0-9_]*$", path)
                    self.assertNotIn(name, BUILT_IN | set(dir(builtins)) | NO_NAMES | classes | imported, path)
                for part in ast.walk(node):
                    if isinstance(part, ast.Name) and isinstance(part.ctx, ast.Load):
                        self.assertIn(part.id, bound | top | BUILT_IN, (path.name, part.lineno))

    def test_methods_and_values_are_kept_apart(self):
        methods, values = set(), set()
        for path, tree in trees():
            for node in ast.walk(tree):
                if isinstance(node, ast.ClassDef):
                    methods |= {part.name for part in node.body if isinstance(part, ast.FunctionDef)}
                if isinstance(node, ast.Attribute) and isinstance(node.ctx, ast.Store):
                    values.add(node.attr)
        self.assertFalse(methods & values)
        pythons = {name for kind in (str, int, list, dict, tuple, set, frozenset, bytes) for name in dir(kind)}
        self.assertLessEqual(methods & pythons, METHODS | DUNDERS | {"add", "discard"})
        self.assertLessEqual(values & pythons, set("count index title find get join lower upper split strip copy add".split()))

    def test_methods(self):
        own = set()
        for path, tree in trees():
            for node in ast.walk(tree):
                if isinstance(node, ast.ClassDef):
                    self.assertIn(node, tree.body)
                    methods = [part.name for part in node.body if isinstance(part, ast.FunctionDef)]
                    self.assertEqual(len(methods), len(set(methods)), node.name)
                    own |= set(methods)
                if isinstance(node, ast.Attribute) and isinstance(node.ctx, ast.Store):
                    own.add(node.attr)
        for path, tree in trees():
            for node in ast.walk(tree):
                if isinstance(node, ast.Attribute):
                    self.assertIn(node.attr, own | METHODS, (path.name, node.lineno))
                    self.assertNotIn(node.attr, NO_NAMES)
        for name in own:
            self.assertTrue(name in DUNDERS or not name.startswith("_"), name)

    def test_what_is_walked_is_walked_on_the_spot(self):
        for path, tree in trees():
            allowed = []
            for node in ast.walk(tree):
                if isinstance(node, (ast.For, ast.comprehension)):
                    allowed.append(node.iter)
                if isinstance(node, ast.Call) and isinstance(node.func, ast.Name) and node.func.id in WALKERS:
                    allowed.extend(node.args)
            for node in ast.walk(tree):
                if isinstance(node, ast.Call) and isinstance(node.func, ast.Name) and node.func.id in WALKED:
                    self.assertIn(node, allowed, (path.name, node.lineno))


if __name__ == "__main__":
    unittest.main()
