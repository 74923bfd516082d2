"""The package keeps to its part of the language: those rules of LANGUAGE.md that can be seen in the code's form.

It also draws across stages, as the interface asks, only what stands in the interface.
"""

import ast
import builtins
import pathlib
import re
import unittest

FOLDER = pathlib.Path(__file__).resolve().parent.parent / "bellnest"

STATEMENTS = (
    ast.Assign, ast.AnnAssign, ast.AugAssign, ast.If, ast.While, ast.For, ast.Return, ast.Break, ast.Continue,
    ast.Pass, ast.Raise, ast.Try, ast.Expr, ast.FunctionDef, ast.ClassDef, ast.ImportFrom,
)
EXPRESSIONS = (
    ast.Constant, ast.List, ast.Tuple, ast.Dict, ast.Set, ast.BinOp, ast.UnaryOp, ast.BoolOp, ast.Compare, ast.IfExp,
    ast.Call, ast.Attribute, ast.Subscript, ast.Slice, ast.ListComp, ast.JoinedStr, ast.FormattedValue, ast.Lambda,
    ast.Name,
)
OWN_NAMES = set("""
    len range enumerate zip min max sum abs sorted reversed int str bool list tuple dict set frozenset isinstance ord
    repr any all divmod object float bytes Exception ValueError TypeError KeyError IndexError LookupError
    ZeroDivisionError ArithmeticError OverflowError RuntimeError NotImplementedError AttributeError StopIteration
""".split())
OWN_METHODS = set("""
    append clear copy count endswith extend find get index insert isalnum isalpha isdigit islower isspace isupper
    items join keys ljust lower lstrip partition pop remove replace reverse rfind rjust rpartition rsplit rstrip
    setdefault split splitlines startswith strip update upper values zfill bit_length
""".split())
FREE_VALUES = set("count index title find get join lower upper split strip copy add".split())
TWO_UNDERSCORES = ("__init__", "__eq__", "__repr__", "__str__", "__len__")
BARRED_WORDS = set("""
    type typing typing_extensions enum Enum IntEnum StrEnum Flag IntFlag Generic Protocol ABC ABCMeta namedtuple
    NamedTuple TypedDict TYPE_CHECKING abstractmethod
""".split())
BARRED_NAMES = ("register", "mro", "elements", "open", "input", "version_info", "with_traceback", "add_note")
BARRED_AS_NAMES = set("""
    attrgetter breakpoint builtins compile copyright credits delattr dir eval exec exit gc getattr globals hasattr
    help id importlib license locals methodcaller os quit setattr super type vars sys
""".split())
PYTHONS_VALUES = ("", 0, [], (), {}, set(), b"")
WALKED = ("zip", "enumerate", "reversed", "range")
WALKERS = ("list", "tuple", "dict", "sorted", "sum", "any", "all", "enumerate", "zip", "min", "max")
KEYWORDS = {
    "sorted": {"key", "reverse"}, "min": {"key", "default"}, "max": {"key", "default"}, "sum": {"start"},
    "enumerate": {"start"}, "zip": {"strict"},
}

# of each module its stage, and what the interface names in it
INTERFACE = {
    "errors": (0, "BellError NoText NoBell NoNest TooMany NoLine"),
    "cells": (1, "size_of cells_of box_of starts_of"),
    "deeds": (1, "Deed Promise deed_of"),
    "promises": (1, "promise_of"),
    "marks": (2, "is_name number_of"),
    "reading": (2, "read"),
    "showing": (2, "shown"),
    "waits": (3, "bits_of is_word best"),
    "frames": (3, "word_at shut_by may_enter entered turned broken_by"),
    "machine": (3, "Machine"),
    "running": (3, "run prompt served"),
    "nests": (4, "ringings_to"),
    "depths": (4, "deepest paper"),
    "spans": (5, "spans touches_box writes_box"),
    "pairs": (5, "pairs meeting"),
    "anews": (6, "anews loose loosening"),
    "states": (7, "begin may_come come behind breaks"),
    "tables": (7, "table"),
    "judging": (7, "judged"),
    "bars": (8, "bars_of barred"),
    "mending": (8, "mended"),
    "desk": (9, "Desk"),
}


def files():
    return sorted(path for path in FOLDER.rglob("*") if "__pycache__" not in path.parts and not path.is_dir())


def called_name(node):
    """The plain name that a call calls, or None."""
    return node.func.id if isinstance(node, ast.Call) and isinstance(node.func, ast.Name) else None


def is_walked_only(node):
    """Whether a value is one that may only be walked on the spot."""
    if called_name(node) in WALKED:
        return True
    return (isinstance(node, ast.Call) and isinstance(node.func, ast.Attribute)
            and node.func.attr in ("items", "keys", "values"))


class LanguageTest(unittest.TestCase):

    def setUp(self):
        self.texts = {path.name: path.read_text(encoding="utf-8") for path in files()}
        self.trees = {name: ast.parse(text) for name, text in self.texts.items()}

    def nodes(self, kinds):
        """Each node of these kinds in the package, with the words that tell where it stands."""
        for name, tree in self.trees.items():
            for node in ast.walk(tree):
                if isinstance(node, kinds):
                    yield f"{name}:{getattr(node, 'lineno', 0)}", node

    def imports(self, name):
        rows = [node for node in ast.walk(self.trees[name]) if isinstance(node, ast.ImportFrom)]
        return [node for node in rows if node.module != "__future__"]

    def test_files(self):
        self.assertIn("__init__.py", self.texts)
        for path in files():
            self.assertEqual(path.parent, FOLDER, path)
            self.assertRegex(path.name, r"^(__init__|__main__|[a-z][a-z0-9_]*)\.py$")
            self.assertNotIn(path.stem, vars(builtins), path)

    def test_signs_and_sizes(self):
        for name, text in self.texts.items():
            self.assertRegex(text, r"\A[\n -~]*\Z", name)
            lines = text.splitlines()
            self.assertLessEqual(len(lines), 400, name)
            for number, line in enumerate(lines, start=1):
                self.assertLessEqual(len(line), 120, f"{name}:{number}")
        for where, node in self.nodes(ast.FunctionDef):
            self.assertLessEqual(node.end_lineno - node.lineno + 1, 40, where)

    def test_barred_words(self):
        for name, text in self.texts.items():
            self.assertFalse(BARRED_WORDS & set(re.findall(r"[A-Za-z_0-9]+", text)), name)
            self.assertNotRegex(text, "dataclass|overload|contextmanager", name)

    def test_imports(self):
        drawn = {}
        for name, tree in self.trees.items():
            drawn[name] = set()
            for node in self.imports(name):
                self.assertIn(node, tree.body, name)
                self.assertEqual(node.level, 0, name)
                self.assertRegex(node.module, r"^bellnest\.[a-z0-9_]+$", name)
                self.assertNotIn("*", [alias.name for alias in node.names], name)
                source = node.module.split(".")[1] + ".py"
                defined = [getattr(part, "name", None) for part in self.trees[source].body]
                defined += [part.targets[0].id for part in self.trees[source].body if isinstance(part, ast.Assign)]
                for alias in node.names:
                    self.assertIn(alias.name, defined, name)
                drawn[name].add(source)
        while drawn:
            free = [name for name in drawn if not drawn[name] & set(drawn)]
            self.assertTrue(free, f"draw from one another: {sorted(drawn)}")
            drawn = {name: sources for name, sources in drawn.items() if name not in free}

    def test_across_stages_only_what_stands_in_the_interface_is_drawn(self):
        for name in self.trees:
            if name[:-3] not in INTERFACE:
                continue
            stage = INTERFACE[name[:-3]][0]
            for node in self.imports(name):
                source = node.module.split(".")[1]
                if source in INTERFACE and INTERFACE[source][0] != stage:
                    self.assertLess(INTERFACE[source][0], stage, name)
                    self.assertLessEqual({alias.name for alias in node.names}, set(INTERFACE[source][1].split()), name)

    def test_top_of_files(self):
        for name, tree in self.trees.items():
            bound = []
            for node in tree.body:
                kinds = (ast.Expr, ast.ImportFrom, ast.FunctionDef, ast.ClassDef, ast.Assign, ast.AnnAssign)
                self.assertIsInstance(node, kinds, name)
                if isinstance(node, ast.ImportFrom):
                    bound += [alias.asname or alias.name for alias in node.names]
                elif isinstance(node, ast.Assign):
                    bound.append(node.targets[0].id)
                    self.assertNotIsInstance(node.value, (ast.Set, ast.Call), name)
                    inner = [part for part in ast.walk(node.value) if part is not node.value]
                    self.assertFalse([part for part in inner if isinstance(part, (ast.List, ast.Dict))], name)
                elif hasattr(node, "name"):
                    bound.append(node.name)
            self.assertEqual(len(bound), len(set(bound)), name)

    def test_locals_are_not_called_like_classes_or_imports(self):
        for name, tree in self.trees.items():
            taken = {node.name for node in tree.body if isinstance(node, ast.ClassDef)}
            for node in self.imports(name):
                taken |= {alias.asname or alias.name for alias in node.names}
            for node in ast.walk(tree):
                local = node.arg if isinstance(node, ast.arg) else None
                if isinstance(node, ast.Name) and isinstance(node.ctx, ast.Store):
                    local = node.id
                self.assertNotIn(local, taken, name)

    def test_statements(self):
        for where, node in self.nodes(ast.stmt):
            self.assertIsInstance(node, STATEMENTS, where)
            self.assertFalse(getattr(node, "orelse", []) and isinstance(node, (ast.For, ast.While)), where)
            self.assertFalse(getattr(node, "finalbody", []), where)
            if isinstance(node, ast.Assign):
                self.assertEqual(len(node.targets), 1, where)
            if isinstance(node, ast.AnnAssign):
                self.assertIsNotNone(node.value, where)
            if isinstance(node, ast.Expr) and not isinstance(node.value, ast.Call):
                self.assertIsInstance(getattr(node.value, "value", None), str, where)

    def test_expressions(self):
        for where, node in self.nodes(ast.expr):
            self.assertIsInstance(node, EXPRESSIONS, where)
            if isinstance(node, ast.Constant):
                self.assertIsInstance(node.value, (int, str, type(None), type(...)), where)
                self.assertNotIn("%", str(node.value), where)
            if isinstance(node, ast.BinOp):
                self.assertNotIsInstance(node.op, (ast.Div, ast.MatMult), where)
                if isinstance(node.op, ast.Pow):
                    self.assertIsInstance(node.right, ast.Constant, where)
            if isinstance(node, ast.ListComp):
                self.assertEqual(len(node.generators), 1, where)
                self.assertLessEqual(len(node.generators[0].ifs), 1, where)
            if isinstance(node, ast.FormattedValue):
                self.assertIsInstance(node.value, ast.Name, where)
            if isinstance(node, ast.Compare) and isinstance(node.ops[0], (ast.Is, ast.IsNot)):
                self.assertIsInstance(node.comparators[0], ast.Constant, where)
                self.assertIn(node.comparators[0].value, (None, True, False), where)

    def test_walked_at_once(self):
        for name, tree in self.trees.items():
            fine = set()
            for node in ast.walk(tree):
                if isinstance(node, (ast.For, ast.comprehension)):
                    fine.add(node.iter)
                elif called_name(node) in WALKERS and node.args:
                    fine |= set(node.args) if called_name(node) == "zip" else {node.args[0]}
                elif isinstance(node, ast.Call) and isinstance(node.func, ast.Attribute) and node.func.attr == "join":
                    fine |= set(node.args)
            for node in ast.walk(tree):
                self.assertTrue(not is_walked_only(node) or node in fine, f"{name}:{getattr(node, 'lineno', 0)}")

    def test_what_a_loop_walks_is_not_changed_in_it(self):
        changing = ("append", "clear", "extend", "insert", "pop", "remove", "reverse", "setdefault", "update")
        for where, loop in self.nodes(ast.For):
            walked = {ast.unparse(node) for node in ast.walk(loop.iter) if isinstance(node, (ast.Name, ast.Attribute))}
            if called_name(loop.iter) in ("list", "sorted", "tuple") or isinstance(loop.iter, ast.Subscript):
                continue
            for node in ast.walk(loop):
                if isinstance(node, ast.Call) and isinstance(node.func, ast.Attribute) and node.func.attr in changing:
                    self.assertNotIn(ast.unparse(node.func.value), walked, where)

    def test_sets(self):
        for name, tree in self.trees.items():
            fine = set()
            for node in ast.walk(tree):
                if called_name(node) in ("sorted", "len") and not node.keywords:
                    fine |= set(ast.walk(node.args[0]))
                elif isinstance(node, ast.Compare) and isinstance(node.ops[0], (ast.In, ast.NotIn, ast.Eq, ast.NotEq)):
                    fine |= set(ast.walk(node))
            for node in ast.walk(tree):
                is_set = isinstance(node, ast.Set) or called_name(node) in ("set", "frozenset")
                self.assertTrue(not is_set or node in fine, f"{name}:{getattr(node, 'lineno', 0)}")

    def test_keywords(self):
        for where, node in self.nodes(ast.Call):
            name = called_name(node)
            if name in OWN_NAMES:
                self.assertLessEqual({word.arg for word in node.keywords}, KEYWORDS.get(name, set()), where)

    def test_functions_and_classes(self):
        for where, node in self.nodes((ast.FunctionDef, ast.ClassDef)):
            self.assertFalse(node.decorator_list, where)
            if isinstance(node, ast.ClassDef):
                self.assertLessEqual(len(node.bases), 1, where)
                self.assertFalse(node.keywords, where)
                for part in node.body:
                    self.assertIsInstance(part, (ast.FunctionDef, ast.Expr, ast.Pass), where)
                continue
            given = node.args
            self.assertFalse(given.vararg or given.kwarg or given.kwonlyargs or given.posonlyargs, where)

    def test_names(self):
        for where, node in self.nodes((ast.Name, ast.arg, ast.FunctionDef, ast.ClassDef, ast.Attribute)):
            for field in ("id", "arg", "name", "attr"):
                name = getattr(node, field, None)
                if name is None or name in TWO_UNDERSCORES:
                    continue
                self.assertRegex(name, r"^[A-Za-z][A-Za-z0-9_]*$", where)
                self.assertNotIn(name, BARRED_NAMES, where)
                if field != "attr":
                    self.assertNotIn(name, BARRED_AS_NAMES, where)
                if field == "arg" or field == "id" and isinstance(node.ctx, ast.Store):
                    self.assertNotIn(name, vars(builtins), where)
                elif field == "id" and name in vars(builtins):
                    self.assertIn(name, OWN_NAMES, where)

    def test_methods_and_values(self):
        methods, values, called = {}, {}, {}
        for where, node in self.nodes(ast.ClassDef):
            for part in node.body:
                if isinstance(part, ast.FunctionDef):
                    methods[part.name] = where
            names = [part.name for part in node.body if isinstance(part, ast.FunctionDef)]
            self.assertEqual(len(names), len(set(names)), where)
        for where, node in self.nodes(ast.Attribute):
            if isinstance(node.ctx, ast.Store):
                values[node.attr] = where
        for where, node in self.nodes(ast.Call):
            if isinstance(node.func, ast.Attribute):
                called[node.func.attr] = where
        for name, where in values.items():
            self.assertNotIn(name, methods, where)
            if name not in FREE_VALUES:
                self.assertFalse([value for value in PYTHONS_VALUES if hasattr(value, name)], where)
        for name, where in called.items():
            self.assertTrue(name in methods or name in OWN_METHODS or name in values, where)

    def test_handlers(self):
        for where, node in self.nodes(ast.ExceptHandler):
            self.assertIsNotNone(node.type, where)
            names = [part.id for part in ast.walk(node.type) if isinstance(part, ast.Name)]
            self.assertFalse({"Exception", "TypeError"} & set(names), where)


if __name__ == "__main__":
    unittest.main()
