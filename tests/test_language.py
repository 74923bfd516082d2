"""The package keeps to its part of the language: those rules of LANGUAGE.md that can be seen in the code's form."""

import ast
import builtins
import pathlib
import re
import unittest

FOLDER = pathlib.Path(__file__).resolve().parent.parent / "bellnest"

STATEMENTS = (
    ast.Assign, ast.AugAssign, ast.If, ast.While, ast.For, ast.Return, ast.Break, ast.Continue, ast.Pass, ast.Raise,
    ast.Try, ast.Expr, ast.FunctionDef, ast.ClassDef, ast.ImportFrom,
)
EXPRESSIONS = (
    ast.Constant, ast.List, ast.Tuple, ast.Dict, ast.Set, ast.BinOp, ast.UnaryOp, ast.BoolOp, ast.Compare, ast.IfExp,
    ast.Call, ast.Attribute, ast.Subscript, ast.Slice, ast.ListComp, ast.JoinedStr, ast.FormattedValue, ast.Lambda,
    ast.Name,
)
OWN_NAMES = set("""
    len range enumerate zip min max sum abs sorted reversed int str bool list tuple dict set isinstance ord repr any
    all divmod Exception ValueError KeyError IndexError LookupError ZeroDivisionError ArithmeticError OverflowError
    RuntimeError NotImplementedError StopIteration
""".split())
OWN_METHODS = set("""
    append clear copy count endswith extend find get index insert isalnum isalpha isdigit islower isspace isupper
    items join keys ljust lower lstrip partition pop remove replace reverse rfind rjust rpartition rsplit rstrip
    setdefault split splitlines startswith strip update upper values zfill bit_length
""".split())
TWO_UNDERSCORES = ("__init__", "__eq__", "__repr__", "__str__", "__len__")
BARRED_WORDS = set("""
    type typing typing_extensions enum Enum IntEnum StrEnum Flag IntFlag Generic Protocol ABC ABCMeta namedtuple
    NamedTuple TypedDict TYPE_CHECKING abstractmethod
""".split())
BARRED_NAMES = ("register", "mro", "elements", "open", "input", "version_info", "with_traceback", "add_note")
PYTHONS_VALUES = ("", 0, [], (), {}, set(), b"")


def files():
    return sorted(path for path in FOLDER.rglob("*") if "__pycache__" not in path.parts and not path.is_dir())


class LanguageTest(unittest.TestCase):

    def setUp(self):
        self.texts = {path.name: path.read_text(encoding="utf-8") for path in files()}
        self.trees = {name: ast.parse(text) for name, text in self.texts.items()}

    def nodes(self, kinds):
        """Each node of these kinds in the package, with the words that tell where it stands."""
        for name, tree in self.trees.items():
            for node in ast.walk(tree):
                if isinstance(node, kinds):
                    yield f"{name}:{getattr(node, 'lineno', 0)}", node

    def test_files(self):
        self.assertIn("__init__.py", self.texts)
        for path in files():
            self.assertEqual(path.parent, FOLDER, path)
            self.assertRegex(path.name, r"^(__init__|__main__|[a-z][a-z0-9_]*)\.py$")
            self.assertNotIn(path.stem, vars(builtins), path)

    def test_signs_and_sizes(self):
        for name, text in self.texts.items():
            self.assertRegex(text, r"\A[\n -~]*\Z", name)
            lines = text.splitlines()
            self.assertLessEqual(len(lines), 400, name)
            for number, line in enumerate(lines, start=1):
                self.assertLessEqual(len(line), 120, f"{name}:{number}")
        for where, node in self.nodes(ast.FunctionDef):
            self.assertLessEqual(node.end_lineno - node.lineno + 1, 40, where)

    def test_barred_words(self):
        for name, text in self.texts.items():
            self.assertFalse(BARRED_WORDS & set(re.findall(r"[A-Za-z_0-9]+", text)), name)
            self.assertNotRegex(text, "dataclass|overload|contextmanager", name)

    def test_imports(self):
        drawn = {}
        for name, tree in self.trees.items():
            rows = [node for node in ast.walk(tree) if isinstance(node, ast.ImportFrom)]
            drawn[name] = set()
            for node in rows:
                self.assertIn(node, tree.body, name)
                self.assertEqual(node.level, 0, name)
                self.assertRegex(node.module, r"^bellnest\.[a-z0-9_]+$", name)
                self.assertNotIn("*", [alias.name for alias in node.names], name)
                source = node.module.split(".")[1] + ".py"
                defined = [getattr(part, "name", None) for part in self.trees[source].body]
                defined += [part.targets[0].id for part in self.trees[source].body if isinstance(part, ast.Assign)]
                for alias in node.names:
                    self.assertIn(alias.name, defined, name)
                drawn[name].add(source)
        while drawn:
            free = [name for name in drawn if not drawn[name] & set(drawn)]
            self.assertTrue(free, f"draw from one another: {sorted(drawn)}")
            drawn = {name: sources for name, sources in drawn.items() if name not in free}

    def test_statements(self):
        for where, node in self.nodes(ast.stmt):
            self.assertIsInstance(node, STATEMENTS, where)
            self.assertFalse(getattr(node, "orelse", []) and isinstance(node, (ast.For, ast.While)), where)
            self.assertFalse(getattr(node, "finalbody", []), where)
            if isinstance(node, ast.Assign):
                self.assertEqual(len(node.targets), 1, where)
            if isinstance(node, ast.Expr) and not isinstance(node.value, ast.Call):
                self.assertIsInstance(getattr(node.value, "value", None), str, where)

    def test_expressions(self):
        for where, node in self.nodes(ast.expr):
            self.assertIsInstance(node, EXPRESSIONS, where)
            if isinstance(node, ast.Constant):
                self.assertIsInstance(node.value, (int, str, type(None)), where)
                self.assertNotIn("%", str(node.value), where)
            if isinstance(node, ast.BinOp):
                self.assertNotIsInstance(node.op, (ast.Div, ast.MatMult), where)
            if isinstance(node, ast.ListComp):
                self.assertEqual(len(node.generators), 1, where)
                self.assertLessEqual(len(node.generators[0].ifs), 1, where)
            if isinstance(node, ast.FormattedValue):
                self.assertIsInstance(node.value, ast.Name, where)
            if isinstance(node, ast.Compare) and isinstance(node.ops[0], (ast.Is, ast.IsNot)):
                self.assertIsInstance(node.comparators[0], ast.Constant, where)
                self.assertIn(node.comparators[0].value, (None, True, False), where)

    def test_functions_and_classes(self):
        for where, node in self.nodes((ast.FunctionDef, ast.ClassDef)):
            self.assertFalse(node.decorator_list, where)
            if isinstance(node, ast.ClassDef):
                self.assertLessEqual(len(node.bases), 1, where)
                self.assertFalse(node.keywords, where)
                for part in node.body:
                    self.assertIsInstance(part, (ast.FunctionDef, ast.Expr, ast.Pass), where)
                continue
            given = node.args
            self.assertFalse(given.vararg or given.kwarg or given.kwonlyargs or given.posonlyargs, where)
            self.assertFalse(node.returns or [one for one in given.args if one.annotation], where)

    def test_names(self):
        for where, node in self.nodes((ast.Name, ast.arg, ast.FunctionDef, ast.ClassDef, ast.Attribute)):
            for field in ("id", "arg", "name", "attr"):
                name = getattr(node, field, None)
                if name is None or name in TWO_UNDERSCORES:
                    continue
                self.assertRegex(name, r"^[A-Za-z][A-Za-z0-9_]*$", where)
                self.assertNotIn(name, BARRED_NAMES, where)
                if field == "arg" or field == "id" and isinstance(node.ctx, ast.Store):
                    self.assertNotIn(name, vars(builtins), where)
                elif field == "id" and name in vars(builtins):
                    self.assertIn(name, OWN_NAMES, where)

    def test_methods_and_values(self):
        methods, values, called = {}, {}, {}
        for where, node in self.nodes(ast.ClassDef):
            for part in node.body:
                if isinstance(part, ast.FunctionDef):
                    methods[part.name] = where
            names = [part.name for part in node.body if isinstance(part, ast.FunctionDef)]
            self.assertEqual(len(names), len(set(names)), where)
        for where, node in self.nodes(ast.Attribute):
            if isinstance(node.ctx, ast.Store):
                values[node.attr] = where
        for where, node in self.nodes(ast.Call):
            if isinstance(node.func, ast.Attribute):
                called[node.func.attr] = where
        for name, where in values.items():
            self.assertNotIn(name, methods, where)
            self.assertFalse([value for value in PYTHONS_VALUES if hasattr(value, name)], where)
        for name, where in called.items():
            self.assertTrue(name in methods or name in OWN_METHODS, where)

    def test_handlers(self):
        for where, node in self.nodes(ast.ExceptHandler):
            self.assertIsNotNone(node.type, where)
            names = [part.id for part in ast.walk(node.type) if isinstance(part, ast.Name)]
            self.assertFalse({"Exception", "TypeError"} & set(names), where)


if __name__ == "__main__":
    unittest.main()
