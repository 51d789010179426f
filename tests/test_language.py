"""The package keeps to its small part of Python, as far as a walk over its files can tell."""

import ast
import builtins
import pathlib
import re
import unittest

TOP = pathlib.Path(__file__).resolve().parent.parent
PACKAGE = TOP / "stepcourt"

STATEMENTS = (
    ast.FunctionDef, ast.ClassDef, ast.ImportFrom, ast.Assign, ast.AugAssign, ast.If, ast.While, ast.For, ast.Return,
    ast.Break, ast.Continue, ast.Pass, ast.Raise, ast.Try, ast.Expr,
)
TOP_STATEMENTS = (ast.ImportFrom, ast.FunctionDef, ast.ClassDef, ast.Assign)
EXPRESSIONS = (
    ast.Constant, ast.List, ast.Tuple, ast.Dict, ast.Set, ast.BinOp, ast.UnaryOp, ast.BoolOp, ast.Compare, ast.IfExp,
    ast.Call, ast.Attribute, ast.Subscript, ast.Slice, ast.ListComp, ast.JoinedStr, ast.FormattedValue, ast.Lambda,
    ast.Name,
)
OWN_NAMES = """
len range enumerate zip min max sum abs sorted reversed int str bool list tuple dict set frozenset isinstance
ord repr any all divmod Exception ValueError TypeError KeyError IndexError LookupError ZeroDivisionError ArithmeticError
OverflowError RuntimeError NotImplementedError AttributeError StopIteration""".split()
OWN_METHODS = """
append clear copy count endswith extend find get index insert isalnum isalpha isdigit islower isspace isupper
items join keys ljust lower lstrip partition pop remove replace reverse rfind rjust rpartition rsplit rstrip setdefault
split splitlines startswith strip update upper values zfill bit_length""".split()
UNUSED_NAMES = """
register mro elements open input version_info with_traceback add_note attrgetter breakpoint builtins compile
copyright credits delattr dir eval exec exit gc getattr globals hasattr help id importlib license locals methodcaller os
quit setattr super type vars sys""".split()
UNUSED_WORDS = """
type typing typing_extensions enum Enum IntEnum StrEnum Flag IntFlag Generic Protocol ABC ABCMeta namedtuple
NamedTuple TypedDict TYPE_CHECKING abstractmethod""".split()
VALUES_OF_PYTHON = (str, int, list, tuple, dict, set, frozenset, bytes)
FREE_VALUES = "count index title find get join lower upper split strip copy add".split()
METHODS_WITH_UNDERSCORES = "__init__ __eq__ __repr__ __str__ __len__".split()


def files():
    return sorted(PACKAGE.glob("**/*.py"))


def of_kind(tree, *kinds):
    return [node for node in ast.walk(tree) if isinstance(node, kinds)]


def bound_in(tree):
    """Every name that a file binds, with its node."""
    names = [(node.id, node) for node in of_kind(tree, ast.Name) if isinstance(node.ctx, ast.Store)]
    names += [(node.arg, node) for node in of_kind(tree, ast.arg)]
    names += [(node.name, node) for node in of_kind(tree, ast.FunctionDef, ast.ClassDef)]
    return names


def given_values(tree):
    """The values that a file's objects are given."""
    return [node.attr for node in of_kind(tree, ast.Attribute) if isinstance(node.ctx, ast.Store)]


def methods(tree):
    within = [part for node in of_kind(tree, ast.ClassDef) for part in node.body]
    return [part.name for part in within if isinstance(part, ast.FunctionDef)]


class Language(unittest.TestCase):
    def setUp(self):
        self.texts = {path: path.read_text(encoding="utf-8") for path in files()}
        self.trees = {path: ast.parse(text) for path, text in self.texts.items()}

    def test_files(self):
        self.assertTrue((PACKAGE / "__init__.py").is_file())
        for path in PACKAGE.iterdir():
            if path.name != "__pycache__":
                self.assertRegex(path.name, r"\A(__init__|[a-z][a-z0-9_]*)\.py\Z")
                self.assertNotIn(path.stem, dir(builtins))

    def test_signs_and_sizes(self):
        for path, text in self.texts.items():
            rows = text.split("\n")
            self.assertLessEqual(len(rows), 400, path)
            for number, row in enumerate(rows, start=1):
                self.assertRegex(row, r"\A[ -~]{0,120}\Z", (path.name, number))
        for path, tree in self.trees.items():
            for node in of_kind(tree, ast.FunctionDef):
                self.assertLessEqual(node.end_lineno - node.lineno + 1, 40, node.name)

    def test_statements_and_expressions(self):
        for path, tree in self.trees.items():
            for node in of_kind(tree, ast.stmt):
                self.assertIsInstance(node, STATEMENTS, (path.name, node.lineno))
                self.assertFalse(isinstance(node, (ast.For, ast.While)) and node.orelse, (path.name, node.lineno))
                self.assertFalse(isinstance(node, ast.Try) and node.finalbody, (path.name, node.lineno))
                self.assertFalse(isinstance(node, ast.Assign) and len(node.targets) > 1, (path.name, node.lineno))
                if isinstance(node, ast.Expr):
                    self.assertIsInstance(node.value, (ast.Call, ast.Constant), (path.name, node.lineno))
            for node in of_kind(tree, ast.expr):
                self.assertIsInstance(node, EXPRESSIONS, (path.name, node.lineno))
            for node in of_kind(tree, ast.Constant):
                self.assertFalse(isinstance(node.value, (float, complex, bytes)), (path.name, node.lineno))
                self.assertFalse(isinstance(node.value, str) and "%" in node.value, (path.name, node.lineno))
            for node in of_kind(tree, ast.BinOp):
                self.assertNotIsInstance(node.op, (ast.Div, ast.MatMult), (path.name, node.lineno))
                if isinstance(node.op, ast.Pow):
                    self.assertIsInstance(node.right, ast.Constant, (path.name, node.lineno))
            for node in of_kind(tree, ast.ListComp):
                self.assertEqual(len(node.generators), 1, (path.name, node.lineno))
                self.assertLessEqual(len(node.generators[0].ifs), 1, (path.name, node.lineno))
            for node in of_kind(tree, ast.FormattedValue):
                self.assertIsInstance(node.value, ast.Name, (path.name, node.lineno))
                self.assertIsNone(node.format_spec, (path.name, node.lineno))
            for node in of_kind(tree, ast.Compare):
                if any(isinstance(op, (ast.Is, ast.IsNot)) for op in node.ops):
                    beside = repr(getattr(node.comparators[0], "value", ""))
                    self.assertIn(beside, ("None", "True", "False"), (path.name, node.lineno))

    def test_the_top_of_a_file(self):
        for path, tree in self.trees.items():
            self.assertIsNotNone(ast.get_docstring(tree))
            for node in tree.body[1:]:
                self.assertIsInstance(node, TOP_STATEMENTS, (path.name, node.lineno))
                if isinstance(node, ast.Assign):
                    ast.literal_eval(node.value)

    def test_imports(self):
        modules = {"stepcourt." + path.stem: path for path in files()}
        drawn = {}
        for path, tree in self.trees.items():
            rows = of_kind(tree, ast.ImportFrom)
            drawn[path] = [modules[node.module] for node in rows]
            for node in rows:
                self.assertIn(node, tree.body)
                self.assertEqual(node.level, 0)
                defined = [name for name, bound in bound_in(self.trees[modules[node.module]])]
                for alias in node.names:
                    self.assertIn(alias.name, defined)
                    self.assertIsNone(alias.asname)
        while drawn:
            last = [path for path in drawn if not any(other in drawn for other in drawn[path])]
            self.assertTrue(last, "files draw from one another")
            for path in last:
                drawn.pop(path)

    def test_functions_and_classes(self):
        for path, tree in self.trees.items():
            for node in of_kind(tree, ast.FunctionDef, ast.ClassDef):
                self.assertEqual(node.decorator_list, [], node.name)
            for node in of_kind(tree, ast.FunctionDef, ast.Lambda):
                given = node.args
                self.assertEqual((given.vararg, given.kwarg, given.kwonlyargs, given.posonlyargs), (None, None, [], []))
            for node in of_kind(tree, ast.ClassDef):
                self.assertIn(node, tree.body)
                self.assertLessEqual(len(node.bases), 1)
                names = [part.name for part in node.body if isinstance(part, ast.FunctionDef)]
                self.assertEqual(len(set(names)), len(names))
                for part in node.body:
                    self.assertIsInstance(part, (ast.FunctionDef, ast.Expr), (path.name, part.lineno))

    def test_names(self):
        for path, tree in self.trees.items():
            drawn = [alias.name for node in of_kind(tree, ast.ImportFrom) for alias in node.names]
            classes = [node.name for node in of_kind(tree, ast.ClassDef)]
            for name, node in bound_in(tree):
                if name in METHODS_WITH_UNDERSCORES and name in methods(tree):
                    continue
                self.assertRegex(name, r"\A[A-Za-z][A-Za-z0-9_]*\Z", (path.name, node.lineno))
                self.assertNotIn(name, UNUSED_NAMES, (path.name, node.lineno))
                if not isinstance(node, ast.FunctionDef):
                    self.assertNotIn(name, drawn, (path.name, node.lineno))
                    self.assertNotIn(name, dir(builtins), (path.name, node.lineno))
                    self.assertFalse(name in classes and not isinstance(node, ast.ClassDef), (path.name, node.lineno))
            bound = [name for name, node in bound_in(tree)] + drawn
            for node in of_kind(tree, ast.Name):
                self.assertTrue(node.id in bound or node.id in OWN_NAMES, (path.name, node.id, node.lineno))

    def test_each_name_of_a_files_top_once(self):
        for path, tree in self.trees.items():
            names = [target.id for node in tree.body if isinstance(node, ast.Assign) for target in node.targets]
            names += [node.name for node in tree.body if isinstance(node, (ast.FunctionDef, ast.ClassDef))]
            self.assertEqual(len(set(names)), len(names))

    def test_methods_and_values(self):
        own_methods = [name for tree in self.trees.values() for name in methods(tree)]
        own_values = [name for tree in self.trees.values() for name in given_values(tree)]
        self.assertEqual(set(own_methods) & set(own_values), set())
        for name in own_values:
            self.assertTrue(name in FREE_VALUES or not any(hasattr(kind, name) for kind in VALUES_OF_PYTHON), name)
            self.assertNotIn(name, ("items", "keys", "values", "sort", "args", "encode", "format"))
        for path, tree in self.trees.items():
            for node in of_kind(tree, ast.Attribute):
                known = OWN_METHODS + own_methods + own_values
                self.assertIn(node.attr, known, (path.name, node.lineno))

    def test_words_that_stand_nowhere(self):
        for path, text in self.texts.items():
            for word in UNUSED_WORDS:
                self.assertIsNone(re.search(r"\b" + word + r"\b", text), (path, word))
            for word in ("dataclass", "overload", "contextmanager"):
                self.assertNotIn(word, text, path)

    def test_walked_at_once(self):
        walkers = ("zip", "enumerate", "reversed", "range")
        views = ("items", "keys", "values")
        for path, tree in self.trees.items():
            walked = [node.iter for node in of_kind(tree, ast.For, ast.comprehension)]
            for call in of_kind(tree, ast.Call):
                name = getattr(call.func, "id", getattr(call.func, "attr", ""))
                if name in "list tuple dict sorted sum any all enumerate zip min max join".split():
                    walked += call.args
            for call in of_kind(tree, ast.Call):
                if getattr(call.func, "id", "") in walkers or getattr(call.func, "attr", "") in views:
                    self.assertIn(call, walked, (path.name, call.lineno))

    def test_sets_are_not_kept(self):
        for path, tree in self.trees.items():
            on_the_spot = []
            for call in of_kind(tree, ast.Call):
                if getattr(call.func, "id", "") in ("sorted", "len"):
                    on_the_spot += call.args
            for node in of_kind(tree, ast.Compare):
                on_the_spot += [node.left] + node.comparators
            for node in of_kind(tree, ast.Set):
                self.assertIn(node, on_the_spot, (path.name, node.lineno))
            for call in of_kind(tree, ast.Call):
                if getattr(call.func, "id", "") in ("set", "frozenset"):
                    self.assertIn(call, on_the_spot, (path.name, call.lineno))

    def test_errors_that_are_taken(self):
        for path, tree in self.trees.items():
            for node in of_kind(tree, ast.ExceptHandler):
                self.assertIsNotNone(node.type, (path.name, node.lineno))
                self.assertNotIn(getattr(node.type, "id", ""), ("Exception", "TypeError"), (path.name, node.lineno))


if __name__ == "__main__":
    unittest.main()
