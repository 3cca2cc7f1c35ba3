"""The package's files keep to those rules of LANGUAGE.md that can be seen file by file."""

import ast
import builtins
import pathlib
import re
import unittest

PACKAGE = pathlib.Path(__file__).resolve().parent.parent / "sunstore"

STATEMENTS = (
    ast.Assign, ast.AugAssign, ast.If, ast.While, ast.For, ast.Return, ast.Break, ast.Continue, ast.Pass, ast.Raise,
    ast.Try, ast.Expr, ast.FunctionDef, ast.ClassDef, ast.ImportFrom,
)
EXPRESSIONS = (
    ast.Constant, ast.List, ast.Tuple, ast.Dict, ast.Set, ast.BinOp, ast.UnaryOp, ast.BoolOp, ast.Compare, ast.IfExp,
    ast.Call, ast.Attribute, ast.Subscript, ast.Slice, ast.ListComp, ast.JoinedStr, ast.FormattedValue, ast.Name,
    ast.Lambda,
)
OWN_NAMES = set("""
    len range enumerate zip min max sum abs sorted reversed int str bool list tuple dict set frozenset isinstance ord
    repr any all divmod Exception ValueError TypeError KeyError IndexError LookupError ZeroDivisionError ArithmeticError
    OverflowError RuntimeError NotImplementedError AttributeError StopIteration
""".split())
METHODS = set("""
    append clear copy count endswith extend find get index insert isalnum isalpha isdigit islower isspace isupper items
    join keys ljust lower lstrip partition pop remove replace reverse rfind rjust rpartition rsplit rstrip setdefault
    split splitlines startswith strip update upper values zfill bit_length
""".split())
WORDS = re.compile(
    r"\b(type|typing|typing_extensions|enum|Enum|IntEnum|StrEnum|Flag|IntFlag|Generic|Protocol|ABC|ABCMeta|namedtuple"
    r"|NamedTuple|TypedDict|TYPE_CHECKING|abstractmethod)\b|dataclass|overload|contextmanager")
NOT_USED = set("""
    register mro elements open input version_info with_traceback add_note attrgetter breakpoint builtins compile
    copyright credits delattr dir eval exec exit gc getattr globals hasattr help id importlib license locals
    methodcaller os quit setattr super vars sys
""".split())
WALKS = ("zip", "enumerate", "reversed", "range", "items", "keys", "values")
TAKING_WALKS = ("list", "tuple", "dict", "sorted", "sum", "any", "all", "enumerate", "zip", "min", "max")
CHANGES = ("append", "clear", "extend", "insert", "pop", "remove", "reverse", "setdefault", "update")
OWN_VALUES = "count index title find get join lower upper split strip copy add".split()
KEYWORDS = {
    "sorted": ("key", "reverse"), "min": ("key", "default"), "max": ("key", "default"), "sum": ("start",),
    "enumerate": ("start",), "zip": ("strict",),
}


def files():
    return sorted(path for path in PACKAGE.rglob("*") if path.is_file() and "__pycache__" not in path.parts)


def trees():
    return [(path, ast.parse(path.read_text(encoding="utf-8"))) for path in files()]


def bound_names(tree):
    """Every name that a file binds, with the node that binds it."""
    for node in ast.walk(tree):
        if isinstance(node, (ast.FunctionDef, ast.ClassDef)):
            yield node.name, node
        elif isinstance(node, ast.arg):
            yield node.arg, node
        elif isinstance(node, ast.Name) and isinstance(node.ctx, ast.Store):
            yield node.id, node
        elif isinstance(node, ast.ExceptHandler) and node.name:
            yield node.name, node


def own_methods():
    """The methods of the package's own classes."""
    found = set()
    for _, tree in trees():
        for node in ast.walk(tree):
            if isinstance(node, ast.ClassDef):
                found.update(part.name for part in node.body if isinstance(part, ast.FunctionDef))
    return found


class Language(unittest.TestCase):
    def each(self, kinds):
        """Every node of these kinds in the package, and where it stands."""
        for path, tree in trees():
            for node in ast.walk(tree):
                if isinstance(node, kinds):
                    yield node, f"{path.name}:{getattr(node, 'lineno', 0)}"

    def test_files(self):
        self.assertIn("__init__.py", [path.name for path in files()])
        for path in files():
            self.assertEqual(path.parent, PACKAGE)
            self.assertRegex(path.name, r"\A(__init__|[a-z][a-z0-9_]*)\.py\Z")
            self.assertFalse(path.stem in dir(builtins) or path.stem.startswith("test"), path.name)

    def test_signs_and_sizes(self):
        for path in files():
            text = path.read_text(encoding="utf-8")
            lines = text.split("\n")
            self.assertLessEqual(len(lines), 401, path.name)
            self.assertRegex(text, r"\A[ -~\n]*\Z", path.name)
            self.assertIsNone(WORDS.search(text), path.name)
            self.assertLessEqual(max(len(line) for line in lines), 120, path.name)
        for node, place in self.each(ast.FunctionDef):
            self.assertLessEqual(node.end_lineno - node.lineno + 1, 40, place)

    def test_imports(self):
        for node, place in self.each((ast.Import, ast.ImportFrom)):
            self.assertIsInstance(node, ast.ImportFrom, place)
            self.assertEqual(node.level, 0, place)
            self.assertRegex(node.module, r"\Asunstore\.[a-z0-9_]+\Z", place)
            self.assertNotIn("*", [alias.name for alias in node.names], place)

    def test_the_top_of_a_module(self):
        for path, tree in trees():
            names = [node.name for node in tree.body if isinstance(node, (ast.FunctionDef, ast.ClassDef))]
            for node in tree.body:
                place = f"{path.name}:{node.lineno}"
                self.assertIsInstance(node, (ast.Expr, ast.ImportFrom, ast.Assign, ast.FunctionDef, ast.ClassDef), place)
                if isinstance(node, ast.Expr):
                    self.assertIs(node, tree.body[0], place)
                    self.assertIsInstance(node.value, ast.Constant, place)
                if isinstance(node, ast.Assign):
                    names.append(node.targets[0].id)
                    self.assertFalse([part for part in ast.walk(node.value) if isinstance(part, (ast.Call, ast.BinOp))],
                                     place)
            self.assertEqual(len(names), len(set(names)), path.name)

    def test_statements_and_expressions(self):
        for node, place in self.each(ast.stmt):
            self.assertIsInstance(node, STATEMENTS, place)
            self.assertLessEqual(len(getattr(node, "targets", [])), 1, place)
            self.assertFalse(getattr(node, "finalbody", []), place)
            self.assertFalse(isinstance(node, (ast.For, ast.While)) and node.orelse, place)
            self.assertFalse(getattr(node, "decorator_list", []), place)
        for node, place in self.each(ast.expr):
            self.assertIsInstance(node, EXPRESSIONS, place)
        for node, place in self.each(ast.Constant):
            self.assertNotIsInstance(node.value, (float, complex, bytes), place)
            self.assertFalse(isinstance(node.value, str) and "%" in node.value, place)
        for node, place in self.each((ast.Div, ast.MatMult)):
            self.fail(f"{node} in {place}")
        for node, place in self.each(ast.ListComp):
            self.assertEqual(len(node.generators), 1, place)
            self.assertLessEqual(len(node.generators[0].ifs), 1, place)
        for node, place in self.each(ast.FormattedValue):
            self.assertIsInstance(node.value, ast.Name, place)
            self.assertIsNone(node.format_spec, place)
            self.assertIn(node.conversion, (-1, ord("r")), place)

    def test_powers_have_a_written_exponent(self):
        for node, place in self.each((ast.BinOp, ast.AugAssign)):
            if isinstance(node.op, ast.Pow):
                exponent = node.right if isinstance(node, ast.BinOp) else node.value
                self.assertIsInstance(exponent, ast.Constant, place)
                self.assertIn(exponent.value, range(65), place)

    def test_parameters(self):
        for node, place in self.each((ast.FunctionDef, ast.Lambda)):
            told = node.args
            self.assertFalse(told.vararg or told.kwarg or told.kwonlyargs or told.posonlyargs, place)

    def test_names(self):
        for path, tree in trees():
            for name, node in bound_names(tree):
                place = f"{path.name}:{node.lineno}"
                self.assertRegex(name, r"\A([A-Za-z][A-Za-z0-9_]*|__(init|eq|repr|str|len)__)\Z", place)
                self.assertNotIn(name, NOT_USED, place)
                self.assertNotIn(name, dir(builtins), place)
        for node, place in self.each(ast.Name):
            self.assertTrue(node.id in OWN_NAMES or node.id not in dir(builtins), f"{node.id} in {place}")

    def test_methods(self):
        known = METHODS | own_methods() | {"__init__"}
        for node, place in self.each(ast.Call):
            if isinstance(node.func, ast.Attribute):
                self.assertIn(node.func.attr, known, place)

    def test_one_plain_target(self):
        for node, place in self.each((ast.Assign, ast.AugAssign)):
            target = node.targets[0] if isinstance(node, ast.Assign) else node.target
            self.assertIsInstance(target, (ast.Name, ast.Attribute, ast.Subscript), place)

    def test_no_parameter_and_no_local_is_called_like_an_import_or_a_class(self):
        for path, tree in trees():
            taken = {node.name for node in tree.body if isinstance(node, ast.ClassDef)}
            for node in tree.body:
                if isinstance(node, ast.ImportFrom):
                    taken.update(alias.asname or alias.name for alias in node.names)
            for name, node in bound_names(tree):
                if not isinstance(node, ast.ClassDef):
                    self.assertNotIn(name, taken, f"{path.name}:{node.lineno}")

    def test_no_annotations_and_no_sets(self):
        for node, place in self.each(ast.FunctionDef):
            told = [node.returns] + [parameter.annotation for parameter in node.args.args]
            self.assertEqual(told, [None] * len(told), place)
        for node, place in self.each(ast.Set):
            self.fail(f"a set in {place}")
        for node, place in self.each(ast.Name):
            self.assertNotIn(node.id, ("set", "frozenset"), place)

    def test_walks_stand_where_they_are_walked(self):
        for path, tree in trees():
            walked = []
            for node in ast.walk(tree):
                if isinstance(node, (ast.For, ast.comprehension)):
                    walked.append(node.iter)
                elif isinstance(node, ast.Call) and getattr(node.func, "id", "") in TAKING_WALKS:
                    walked.extend(node.args[:1])
            for node in ast.walk(tree):
                if isinstance(node, ast.Call):
                    name = getattr(node.func, "id", getattr(node.func, "attr", ""))
                    if name in WALKS:
                        self.assertIn(node, walked, f"{path.name}:{node.lineno}")

    def test_what_a_loop_walks_is_not_changed_in_it(self):
        for loop, place in self.each(ast.For):
            walked = [loop.iter]
            if isinstance(loop.iter, ast.Call):
                walked = loop.iter.args + [getattr(loop.iter.func, "value", loop.iter)]
            walked = [ast.unparse(node) for node in walked]
            for node in [part for statement in loop.body for part in ast.walk(statement)]:
                if isinstance(node, ast.Subscript) and isinstance(node.ctx, ast.Store):
                    self.assertNotIn(ast.unparse(node.value), walked, place)
                if isinstance(node, ast.Attribute) and node.attr in CHANGES:
                    self.assertNotIn(ast.unparse(node.value), walked, place)

    def test_own_methods_and_values(self):
        known = {name for kind in (str, int, list, tuple, dict, set, bytes) for name in dir(kind)}
        values = {}
        for node, place in self.each(ast.Attribute):
            if isinstance(node.ctx, ast.Store):
                values[node.attr] = place
        for name, place in values.items():
            self.assertNotIn(name, own_methods(), place)
            self.assertTrue(name in OWN_VALUES or name not in known, place)
        for name in own_methods() - {"__init__"}:
            self.assertTrue(name in METHODS or name in ("add", "discard") or name not in known, name)

    def test_keywords(self):
        for node, place in self.each(ast.Call):
            for keyword in node.keywords:
                self.assertIn(keyword.arg, KEYWORDS.get(getattr(node.func, "id", ""), ()), place)

    def test_is_stands_beside_none_true_false(self):
        for node, place in self.each(ast.Compare):
            for operator, right in zip(node.ops, node.comparators):
                if isinstance(operator, (ast.Is, ast.IsNot)):
                    self.assertIsInstance(right, ast.Constant, place)
                    self.assertIn(right.value, (None, True, False), place)

    def test_errors(self):
        own = {node.name for node, _ in self.each(ast.ClassDef)}
        for node, place in self.each(ast.ExceptHandler):
            self.assertIsInstance(node.type, ast.Name, place)
            self.assertIn(node.type.id, own | {"KeyError", "ZeroDivisionError", "StopIteration"}, place)
        for node, place in self.each(ast.Raise):
            self.assertIsInstance(node.exc, ast.Call, place)
            self.assertIn(node.exc.func.id, own, place)

    def test_no_two_files_draw_from_one_another(self):
        drawn = {}
        for path, tree in trees():
            drawn[path.stem] = [node.module.split(".")[1] for node in tree.body if isinstance(node, ast.ImportFrom)]
        while drawn:
            free = [name for name in drawn if not [other for other in drawn[name] if other in drawn]]
            self.assertTrue(free, f"a ring of imports among {sorted(drawn)}")
            drawn = {name: drawn[name] for name in drawn if name not in free}


if __name__ == "__main__":
    unittest.main()
