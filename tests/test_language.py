"""The package keeps to its small part of Python: what of those rules a walk through the code can see."""

import ast
import builtins
import pathlib
import re
import unittest

PACKAGE = pathlib.Path(__file__).resolve().parent.parent / "onelook"

OWN_NAMES = set(
    "len range enumerate zip min max sum abs sorted reversed int str bool list tuple dict set frozenset isinstance "
    "ord repr any all divmod Exception ValueError TypeError KeyError IndexError LookupError ZeroDivisionError "
    "ArithmeticError OverflowError RuntimeError NotImplementedError AttributeError StopIteration".split())
OWN_METHODS = set(
    "append clear copy count endswith extend find get index insert isalnum isalpha isdigit islower isspace isupper "
    "items join keys ljust lower lstrip partition pop remove replace reverse rfind rjust rpartition rsplit rstrip "
    "setdefault split splitlines startswith strip update upper values zfill bit_length".split())
NO_VALUES = set(
    "items keys values pop update append clear extend insert remove reverse setdefault sort args encode format".split())
NOWHERE = set("register mro elements open input version_info with_traceback add_note format_map format".split())
NO_WORDS = re.compile(
    r"\b(type|typing|typing_extensions|enum|Enum|IntEnum|StrEnum|Flag|IntFlag|Generic|Protocol|ABC|ABCMeta|"
    r"namedtuple|NamedTuple|TypedDict|TYPE_CHECKING|abstractmethod)\b|dataclass|overload|contextmanager")
STATEMENTS = (
    ast.Assign, ast.AugAssign, ast.If, ast.While, ast.For, ast.Return, ast.Break, ast.Continue, ast.Pass, ast.Raise,
    ast.Try, ast.FunctionDef, ast.ClassDef, ast.ImportFrom, ast.Expr,
)
EXPRESSIONS = (
    ast.Constant, ast.List, ast.Tuple, ast.Dict, ast.Set, ast.BinOp, ast.UnaryOp, ast.Compare, ast.BoolOp, ast.IfExp,
    ast.Call, ast.Attribute, ast.Subscript, ast.Slice, ast.ListComp, ast.JoinedStr, ast.FormattedValue, ast.Lambda,
    ast.Name,
)
LOOSE_WALKS = set("zip enumerate reversed range items keys values".split())
CHANGERS = set("append clear extend insert pop remove reverse setdefault update".split())
COPIERS = set("list tuple dict sorted range".split())
WALKERS = set("list tuple dict sorted sum any all enumerate zip min max join".split())


def files():
    return sorted(PACKAGE.glob("*.py"))


def trees():
    return [(path.name, ast.parse(path.read_text())) for path in files()]


def is_plain(value):
    if isinstance(value, ast.Constant):
        return value.value is None or isinstance(value.value, (int, str))
    if isinstance(value, (ast.Tuple, ast.List)):
        return all(is_plain(entry) for entry in value.elts)
    if isinstance(value, ast.Dict):
        return all(is_plain(entry) for entry in value.keys + value.values)
    return isinstance(value, ast.Name)


def bound_names(tree):
    for node in ast.walk(tree):
        if isinstance(node, ast.Name) and isinstance(node.ctx, ast.Store):
            yield node.id
        elif isinstance(node, ast.arg):
            yield node.arg
        elif isinstance(node, ast.ExceptHandler) and node.name is not None:
            yield node.name


def top_names(tree):
    for node in tree.body:
        if isinstance(node, ast.Assign):
            yield node.targets[0].id
        elif isinstance(node, (ast.FunctionDef, ast.ClassDef)):
            yield node.name


def imports(tree):
    return [node for node in tree.body if isinstance(node, ast.ImportFrom)]


class Language(unittest.TestCase):
    def test_files_and_signs(self):
        self.assertIn("__init__.py", [path.name for path in files()])
        for path in PACKAGE.iterdir():
            if path.name == "__pycache__":
                continue
            self.assertRegex(path.name, r"^([a-z][a-z0-9_]*|__init__|__main__)\.py$")
            text = path.read_text()
            self.assertRegex(text, r"\A[ -~\n]*\Z", path.name)
            self.assertIsNone(NO_WORDS.search(text), path.name)
            lines = text.splitlines()
            self.assertLessEqual(len(lines), 400, path.name)
            self.assertLessEqual(max([0] + [len(line) for line in lines]), 120, path.name)

    def test_top_of_each_file(self):
        for name, tree in trees():
            body = tree.body[1:] if ast.get_docstring(tree) else tree.body
            for node in body:
                self.assertIsInstance(node, (ast.ImportFrom, ast.FunctionDef, ast.ClassDef, ast.Assign), name)
                if isinstance(node, ast.Assign):
                    self.assertTrue(is_plain(node.value), (name, node.lineno))
            tops = list(top_names(tree)) + [alias.name for node in imports(tree) for alias in node.names]
            self.assertEqual(len(tops), len(set(tops)), name)

    def test_imports(self):
        defined = {name: list(top_names(tree)) for name, tree in trees()}
        drawn = {}
        for name, tree in trees():
            drawn[name] = []
            for node in ast.walk(tree):
                self.assertNotIsInstance(node, ast.Import, name)
            for node in imports(tree):
                self.assertEqual(node.level, 0)
                self.assertRegex(node.module, r"^onelook\.[a-z0-9_]+$")
                source = node.module.split(".")[1] + ".py"
                drawn[name].append(source)
                for alias in node.names:
                    self.assertIsNone(alias.asname)
                    self.assertIn(alias.name, defined[source], name)
        self.assertEqual(defined["__init__.py"], [])
        settled = []
        while len(settled) < len(drawn):
            more = [name for name in drawn if name not in settled and all(one in settled for one in drawn[name])]
            self.assertTrue(more, "files draw from one another in a ring")
            settled += more

    def test_statements_and_expressions(self):
        for name, tree in trees():
            for node in ast.walk(tree):
                spot = (name, getattr(node, "lineno", 0))
                if isinstance(node, ast.stmt):
                    self.assertIsInstance(node, STATEMENTS, spot)
                    self.check_statement(node, spot, tree)
                if isinstance(node, ast.expr):
                    self.assertIsInstance(node, EXPRESSIONS, spot)
                    self.check_expression(node, spot)

    def check_statement(self, node, spot, tree):
        if isinstance(node, ast.Expr) and node is not tree.body[0]:
            self.assertIsInstance(node.value, ast.Call, spot)
        if isinstance(node, ast.Assign):
            self.assertEqual(len(node.targets), 1, spot)
        if isinstance(node, (ast.For, ast.While)):
            self.assertEqual(node.orelse, [], spot)
        if isinstance(node, ast.Try):
            self.assertEqual(node.finalbody, [], spot)
            for handler in node.handlers:
                self.assertIsNotNone(handler.type, spot)
        if isinstance(node, ast.Raise):
            self.assertIsInstance(node.exc, ast.Call, spot)
        if isinstance(node, ast.FunctionDef):
            self.assertLessEqual(node.end_lineno - node.lineno + 1, 40, spot)
            self.check_arguments(node, spot)
        if isinstance(node, ast.ClassDef):
            self.assertEqual((node.decorator_list, node.keywords), ([], []), spot)
            self.assertLessEqual(len(node.bases), 1, spot)
            for inner in node.body:
                self.assertIsInstance(inner, (ast.FunctionDef, ast.Pass), spot)

    def check_arguments(self, node, spot):
        self.assertEqual(node.decorator_list, [], spot)
        told = node.args
        self.assertEqual((told.posonlyargs, told.kwonlyargs, told.vararg, told.kwarg), ([], [], None, None), spot)

    def check_expression(self, node, spot):
        if isinstance(node, ast.Constant):
            self.assertTrue(node.value is None or isinstance(node.value, (int, str)), spot)
            if isinstance(node.value, str):
                self.assertNotIn("%", node.value, spot)
        if isinstance(node, ast.BinOp):
            self.assertNotIsInstance(node.op, (ast.Div, ast.MatMult), spot)
            if isinstance(node.op, ast.Pow):
                self.assertIsInstance(node.right, ast.Constant, spot)
                self.assertLessEqual(node.right.value, 64, spot)
        if isinstance(node, ast.ListComp):
            self.assertEqual(len(node.generators), 1, spot)
            self.assertLessEqual(len(node.generators[0].ifs), 1, spot)
        if isinstance(node, ast.Compare):
            for op, right in zip(node.ops, node.comparators):
                if isinstance(op, (ast.Is, ast.IsNot)):
                    self.assertIn(getattr(right, "value", 0), (None, True, False), spot)
        if isinstance(node, ast.FormattedValue):
            self.assertIsInstance(node.value, ast.Name, spot)

    def test_names(self):
        for name, tree in trees():
            foreign = [alias.name for node in imports(tree) for alias in node.names]
            own = set(top_names(tree)) | set(foreign)
            inner = set(bound_names(tree)) - set(top_names(tree))
            for bound in inner | own:
                self.assertRegex(bound, r"^[A-Za-z][A-Za-z0-9_]*$", name)
                self.assertNotIn(bound, dir(builtins), name)
                self.assertNotIn(bound, NOWHERE, name)
            self.assertEqual(inner & set(foreign), set(), name)
            for node in ast.walk(tree):
                if isinstance(node, ast.Name) and isinstance(node.ctx, ast.Load):
                    self.assertIn(node.id, own | inner | OWN_NAMES, (name, node.lineno))

    def test_attributes(self):
        methods, values, called = set(), set(), []
        for name, tree in trees():
            for node in ast.walk(tree):
                if isinstance(node, ast.ClassDef):
                    methods |= {inner.name for inner in node.body if isinstance(inner, ast.FunctionDef)}
                if isinstance(node, ast.Attribute) and isinstance(node.ctx, ast.Store):
                    values.add(node.attr)
                if isinstance(node, ast.Call) and isinstance(node.func, ast.Attribute):
                    called.append((node.func.attr, name, node.lineno))
        self.assertEqual(methods & values, set())
        self.assertEqual(values & NO_VALUES, set())
        self.assertEqual((methods | values) & NOWHERE, set())
        for attribute, name, line in called:
            self.assertIn(attribute, OWN_METHODS | methods, (name, line))

    def test_walks_are_not_kept(self):
        for name, tree in trees():
            walked = set()
            for node in ast.walk(tree):
                if isinstance(node, (ast.For, ast.comprehension)):
                    walked.add(node.iter)
                if isinstance(node, ast.Call) and called_name(node) in WALKERS:
                    walked |= set(node.args)
            for node in ast.walk(tree):
                if isinstance(node, ast.Call) and called_name(node) in LOOSE_WALKS:
                    self.assertIn(node, walked, (name, node.lineno))

    def test_what_is_walked_is_not_changed(self):
        for name, tree in trees():
            for node in ast.walk(tree):
                # A list(..) of it is a copy; of an index alone what it stands behind is walked.
                if isinstance(node, ast.For) and not (isinstance(node.iter, ast.Call) and called_name(node.iter) in COPIERS):
                    walked = {inner.id for inner in ast.walk(node.iter) if isinstance(inner, ast.Name)}
                    self.assertEqual(walked & set(changed_names(node.body)), set(), (name, node.lineno))


def changed_names(body):
    """What is changed there by a method or by an index, by its name."""
    for node in [inner for statement in body for inner in ast.walk(statement)]:
        changed = None
        if isinstance(node, ast.Call) and isinstance(node.func, ast.Attribute) and node.func.attr in CHANGERS:
            changed = node.func.value
        elif isinstance(node, ast.Subscript) and isinstance(node.ctx, ast.Store):
            changed = node.value
        if isinstance(changed, ast.Name):
            yield changed.id


def called_name(call):
    return call.func.id if isinstance(call.func, ast.Name) else getattr(call.func, "attr", "")


if __name__ == "__main__":
    unittest.main()
