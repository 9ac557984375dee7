"""Looks after those rules of the language (L1 to L28) that a walk over the package's files can see."""

import ast
import builtins
import pathlib
import re
import unittest

PACKAGE = pathlib.Path(__file__).resolve().parent.parent / "oneroom"

NODES = set("""
Module FunctionDef arguments arg ClassDef Return Assign AugAssign For While If Raise Try ExceptHandler ImportFrom alias
Expr Pass Break Continue BoolOp And Or BinOp Add Sub Mult FloorDiv Mod Pow LShift RShift BitOr BitXor BitAnd UnaryOp
Invert Not USub UAdd Lambda IfExp Dict Set ListComp comprehension Compare Eq NotEq Lt LtE Gt GtE Is IsNot In NotIn
Call keyword JoinedStr FormattedValue Constant Attribute Subscript Slice Name List Tuple Load Store
""".split())

BUILT_IN = set("""
len range enumerate zip min max sum abs sorted reversed int str bool list tuple dict set frozenset isinstance ord repr
any all divmod Exception ValueError TypeError KeyError IndexError LookupError ZeroDivisionError ArithmeticError
OverflowError RuntimeError NotImplementedError AttributeError StopIteration
""".split())

METHODS = set("""
append clear copy count endswith extend find get index insert isalnum isalpha isdigit islower isspace isupper items join
keys ljust lower lstrip partition pop remove replace reverse rfind rjust rpartition rsplit rstrip setdefault split
splitlines startswith strip update upper values zfill bit_length
""".split())

SPECIAL = {"__init__", "__eq__", "__repr__", "__str__", "__len__"}

NOT_AS_NAMES = set("""
register mro elements open input version_info with_traceback add_note attrgetter breakpoint builtins compile copyright
credits delattr dir eval exec exit gc getattr globals hasattr help id importlib license locals methodcaller os quit
setattr super type vars sys format format_map
""".split())

NOT_AS_WORDS = re.compile(
    r"\b(type|typing|typing_extensions|enum|Enum|IntEnum|StrEnum|Flag|IntFlag|Generic|Protocol|ABC|ABCMeta|namedtuple"
    r"|NamedTuple|TypedDict|TYPE_CHECKING|abstractmethod)\b|dataclass|overload|contextmanager"
)

NOT_AS_VALUES = set("""
items keys values pop update append clear extend insert remove reverse setdefault sort args encode format
""".split())


def own_values(tree):
    return {n.attr for n in ast.walk(tree) if isinstance(n, ast.Attribute) and isinstance(n.ctx, ast.Store)}


def own_methods(tree):
    classes = [n for n in ast.walk(tree) if isinstance(n, ast.ClassDef)]
    return {m.name for c in classes for m in c.body if isinstance(m, ast.FunctionDef)} - SPECIAL


def bound_names(tree):
    for node in ast.walk(tree):
        if isinstance(node, (ast.FunctionDef, ast.ClassDef)):
            yield node.name
        elif isinstance(node, ast.arg):
            yield node.arg
        elif isinstance(node, ast.Name) and isinstance(node.ctx, ast.Store):
            yield node.id


class Language(unittest.TestCase):
    def setUp(self):
        self.sources = {path.stem: path.read_text("utf-8") for path in sorted(PACKAGE.glob("*.py"))}
        self.trees = {stem: ast.parse(source) for stem, source in self.sources.items()}

    def walk(self, kind=ast.AST):
        for stem, tree in self.trees.items():
            for node in ast.walk(tree):
                if isinstance(node, kind):
                    yield f"{stem}:{getattr(node, 'lineno', 0)}", node

    def test_files(self):
        for path in PACKAGE.iterdir():
            if path.name != "__pycache__":
                self.assertTrue(re.fullmatch(r"(__init__|__main__|[a-z][a-z0-9_]*)\.py", path.name), path)
                self.assertNotIn(path.stem, dir(builtins))
        self.assertIn("__init__", self.sources)

    def test_sizes_and_signs(self):
        for stem, source in self.sources.items():
            rows = source.split("\n")
            self.assertLessEqual(len(rows), 400, stem)
            for number, row in enumerate(rows, start=1):
                self.assertLessEqual(len(row), 120, (stem, number))
                self.assertTrue(re.fullmatch(r"[ -~]*", row), (stem, number))
        for where, node in self.walk(ast.FunctionDef):
            self.assertLessEqual(node.end_lineno - node.lineno + 1, 40, where)

    def test_words(self):
        for stem, source in self.sources.items():
            self.assertIsNone(NOT_AS_WORDS.search(source), stem)

    def test_imports(self):
        drawn = {stem: set() for stem in self.trees}
        for stem, tree in self.trees.items():
            for node in ast.walk(tree):
                if isinstance(node, ast.ImportFrom):
                    self.assertIn(node, tree.body, stem)
                    self.assertEqual(node.level, 0, stem)
                    self.assertTrue(node.module.startswith("oneroom."), (stem, node.module))
                    source = node.module.partition(".")[2]
                    defined = {name for n in self.trees[source].body if not isinstance(n, ast.ImportFrom)
                               for name in top_names(n)}
                    self.assertLessEqual({alias.name for alias in node.names}, defined, stem)
                    drawn[stem].add(source)
        while drawn:
            ends = [stem for stem in drawn if not drawn[stem] & set(drawn)]
            self.assertTrue(ends, drawn)
            for stem in ends:
                drawn.pop(stem)

    def test_statements_and_expressions(self):
        for where, node in self.walk():
            self.assertIn(type(node).__name__, NODES, where)
            if isinstance(node, (ast.For, ast.While)):
                self.assertEqual(node.orelse, [], where)
            if isinstance(node, ast.Try):
                self.assertEqual(node.finalbody, [], where)
            if isinstance(node, ast.Assign):
                self.assertEqual(len(node.targets), 1, where)
            if isinstance(node, ast.Constant):
                self.assertIn(type(node.value), (int, str, bool, type(None)), where)
            if isinstance(node, ast.ListComp):
                self.assertEqual(len(node.generators), 1, where)
                self.assertLessEqual(len(node.generators[0].ifs), 1, where)
            if isinstance(node, ast.BinOp) and isinstance(node.op, ast.Pow):
                self.assertIn(node.right.value, range(65), where)
            if isinstance(node, ast.Compare) and isinstance(node.ops[0], (ast.Is, ast.IsNot)):
                self.assertIn(node.comparators[0].value, (None, True, False), where)

    def test_bare_texts_are_docstrings_of_files(self):
        for where, node in self.walk(ast.Expr):
            if not isinstance(node.value, ast.Call):
                self.assertIn(node, [tree.body[0] for tree in self.trees.values()], where)

    def test_functions_and_classes(self):
        for where, node in self.walk((ast.FunctionDef, ast.ClassDef)):
            self.assertEqual(node.decorator_list, [], where)
            if isinstance(node, ast.FunctionDef):
                given = node.args
                self.assertEqual((given.vararg, given.kwarg, given.kwonlyargs, given.posonlyargs),
                                 (None, None, [], []), where)
            else:
                self.assertLessEqual(len(node.bases), 1, where)
                for part in node.body:
                    self.assertIsInstance(part, (ast.FunctionDef, ast.Pass), where)

    def test_the_top_of_a_file(self):
        for stem, tree in self.trees.items():
            self.assertIsNotNone(ast.get_docstring(tree), stem)
            for node in tree.body[1:]:
                self.assertIsInstance(node, (ast.ImportFrom, ast.FunctionDef, ast.ClassDef, ast.Assign), stem)
            names = [name for node in tree.body for name in top_names(node)]
            self.assertEqual(len(names), len(set(names)), stem)

    def test_names(self):
        for stem, tree in self.trees.items():
            tops = {name for node in tree.body for name in top_names(node)
                    if isinstance(node, (ast.ClassDef, ast.ImportFrom))}
            for name in bound_names(tree):
                self.assertTrue(name in SPECIAL or re.fullmatch(r"[A-Za-z][A-Za-z0-9_]*", name), (stem, name))
                self.assertNotIn(name, NOT_AS_NAMES, stem)
            for node in ast.walk(tree):
                if isinstance(node, ast.Name) and hasattr(builtins, node.id):
                    self.assertIn(node.id, BUILT_IN, stem)
                    self.assertIsInstance(node.ctx, ast.Load, (stem, node.id))
                if isinstance(node, ast.arg):
                    self.assertFalse(hasattr(builtins, node.arg), (stem, node.arg))
                    self.assertNotIn(node.arg, tops, stem)
                if isinstance(node, ast.Name) and isinstance(node.ctx, ast.Store):
                    self.assertNotIn(node.id, tops, stem)

    def test_methods_and_values(self):
        methods = set().union(*[own_methods(tree) for tree in self.trees.values()])
        values = set().union(*[own_values(tree) for tree in self.trees.values()])
        self.assertEqual(methods & values, set())
        self.assertEqual(values & NOT_AS_VALUES, set())
        for where, node in self.walk(ast.Attribute):
            self.assertIn(node.attr, methods | values | METHODS | {"__init__"}, where)

    def test_keywords(self):
        allowed = {"sorted": {"key", "reverse"}, "min": {"key", "default"}, "max": {"key", "default"},
                   "sum": {"start"}, "enumerate": {"start"}, "zip": {"strict"}}
        for where, node in self.walk(ast.Call):
            name = getattr(node.func, "id", "")
            if name in BUILT_IN or getattr(node.func, "attr", "") in METHODS:
                self.assertLessEqual({given.arg for given in node.keywords}, allowed.get(name, set()), where)

    def test_texts(self):
        for where, node in self.walk(ast.Constant):
            if isinstance(node.value, str):
                self.assertNotIn("%", node.value, where)
        for where, node in self.walk(ast.FormattedValue):
            self.assertIsInstance(node.value, ast.Name, where)
            self.assertIsNone(node.format_spec, where)
        for stem, source in self.sources.items():
            self.assertEqual(re.findall(r"""\\[^nt\\'"]""", source), [], stem)

    def test_tables_are_plain(self):
        for stem, tree in self.trees.items():
            for node in tree.body:
                if isinstance(node, ast.Assign):
                    for part in ast.walk(node.value):
                        self.assertNotIsInstance(part, (ast.Call, ast.ListComp, ast.Lambda), stem)
                        if part is not node.value:
                            self.assertNotIsInstance(part, (ast.List, ast.Dict, ast.Set), stem)

    def test_errors_are_made_on_the_spot(self):
        for where, node in self.walk(ast.Raise):
            self.assertIsInstance(node.exc, ast.Call, where)
            if node.cause is not None:
                self.assertTrue(isinstance(node.cause, ast.Name) or node.cause.value is None, where)
        for where, node in self.walk(ast.ExceptHandler):
            self.assertIsNotNone(node.type, where)
            self.assertNotIn(getattr(node.type, "id", ""), ("Exception", "TypeError"), where)


def top_names(node):
    if isinstance(node, ast.ImportFrom):
        return [alias.asname or alias.name for alias in node.names]
    if isinstance(node, ast.Assign):
        return [node.targets[0].id]
    return [node.name] if hasattr(node, "name") else []


if __name__ == "__main__":
    unittest.main()
