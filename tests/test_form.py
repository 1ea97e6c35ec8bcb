"""The part of Python that the package keeps to, as far as the rules (L1 to L28) can be read off its files."""

import ast
import builtins
import pathlib
import re
import unittest

PACKAGE = pathlib.Path(__file__).resolve().parent.parent / "evenpieces"

NODES = """
    Module Expr Import ImportFrom alias FunctionDef ClassDef arguments arg Return Assign AugAssign AnnAssign If While
    For Break Continue Pass Raise Try ExceptHandler Call Attribute Subscript Slice Name Load Store Constant List Tuple
    Dict Set ListComp comprehension BoolOp And Or UnaryOp Not USub UAdd Invert BinOp Add Sub Mult FloorDiv Mod Pow
    BitAnd BitOr BitXor LShift RShift Compare Eq NotEq Lt LtE Gt GtE Is IsNot In NotIn IfExp Lambda JoinedStr
    FormattedValue keyword
""".split()

BUILTINS = """
    len range enumerate zip min max sum abs sorted reversed int str bool list tuple dict set frozenset isinstance ord
    repr any all divmod Exception ValueError TypeError KeyError IndexError LookupError ZeroDivisionError
    ArithmeticError OverflowError RuntimeError NotImplementedError AttributeError StopIteration
""".split()

METHODS = """
    append clear copy count endswith extend find get index insert isalnum isalpha isdigit islower isspace isupper items
    join keys ljust lower lstrip partition pop remove replace reverse rfind rjust rpartition rsplit rstrip setdefault
    split splitlines startswith strip update upper values zfill bit_length
""".split()

DUNDERS = ["__init__", "__eq__", "__repr__", "__str__", "__len__"]

WORDS = re.compile(
    r"\b(type|typing|typing_extensions|enum|Enum|IntEnum|StrEnum|Flag|IntFlag|Generic|Protocol|ABC|ABCMeta|namedtuple"
    r"|NamedTuple|TypedDict|TYPE_CHECKING|abstractmethod|register|mro|elements|open|input|version_info|with_traceback"
    r"|add_note)\b|dataclass|overload|contextmanager"
)


def package_files():
    return sorted(path for path in PACKAGE.rglob("*") if path.is_file() and path.suffix != ".pyc")


def trees():
    return [(path.name, ast.parse(path.read_text(encoding="utf-8"))) for path in package_files()]


def nodes(kind):
    return [(name, node) for name, tree in trees() for node in ast.walk(tree) if isinstance(node, kind)]


def bound_at_top(tree):
    names = []
    for node in tree.body:
        if isinstance(node, (ast.FunctionDef, ast.ClassDef)):
            names.append(node.name)
        if isinstance(node, ast.Assign):
            names.extend(target.id for target in node.targets)
    return names


def imported(tree):
    return [alias.name for node in tree.body if isinstance(node, ast.ImportFrom) for alias in node.names]


class Files(unittest.TestCase):
    def test_there_are_files(self):
        names = [path.name for path in package_files()]
        for name in ["__init__.py", "errors.py", "goods.py", "webs.py"]:
            self.assertIn(name, names)

    def test_names(self):
        for path in package_files():
            self.assertRegex(path.name, r"^(__init__|__main__|[a-z][a-z0-9_]*)\.py$")
            self.assertNotIn(path.stem, dir(builtins))
            self.assertNotRegex(path.stem, r"^(tests?|testing|test_.*|site|conftest|sitecustomize|usercustomize)$")

    def test_signs_words_and_sizes(self):
        for path in package_files():
            text = path.read_bytes().decode("utf-8")
            with self.subTest(file=path.name):
                self.assertRegex(text, r"\A[\n -~]*\Z")
                self.assertIsNone(WORDS.search(text))
                self.assertLessEqual(len(text.splitlines()), 400)
                self.assertLessEqual(max(len(line) for line in text.splitlines()), 120)

    def test_functions_are_short(self):
        for name, node in nodes(ast.FunctionDef):
            self.assertLessEqual(node.end_lineno - node.lineno + 1, 40, (name, node.name))


class Imports(unittest.TestCase):
    def test_they_are_drawn_from_the_file_that_defines_the_name(self):
        tops = {"evenpieces." + name[:-3]: bound_at_top(tree) for name, tree in trees()}
        self.assertEqual([name for name, node in nodes(ast.Import) if name != "__main__.py"], [])
        for name, node in nodes(ast.ImportFrom):
            self.assertEqual(node.level, 0)
            self.assertIn(node.module, tops)
            for alias in node.names:
                self.assertIn(alias.name, tops[node.module], (name, alias.name))

    def test_no_ring_of_files(self):
        drawn = {name: [] for name, tree in trees()}
        for name, node in nodes(ast.ImportFrom):
            drawn[name].append(node.module.split(".")[-1] + ".py")
        while drawn:
            ready = [name for name in drawn if not any(other in drawn for other in drawn[name])]
            self.assertNotEqual(ready, [], "these draw from one another: " + " ".join(drawn))
            drawn = {name: drawn[name] for name in drawn if name not in ready}


class Code(unittest.TestCase):
    def test_kinds_of_nodes(self):
        for name, node in nodes(ast.AST):
            self.assertIn(node.__class__.__name__, NODES, (name, getattr(node, "lineno", None)))

    def test_values(self):
        for name, node in nodes(ast.Constant):
            self.assertTrue(node.value is None or isinstance(node.value, (int, str)), (name, node.lineno))
            if isinstance(node.value, str):
                self.assertNotIn("%", node.value, (name, node.lineno))

    def test_assignments_loops_and_comprehensions(self):
        for name, node in nodes(ast.Assign):
            self.assertEqual(len(node.targets), 1, (name, node.lineno))
        for name, node in nodes((ast.For, ast.While)):
            self.assertEqual(node.orelse, [], (name, node.lineno))
        for name, node in nodes(ast.ListComp):
            self.assertEqual(len(node.generators), 1, (name, node.lineno))
            self.assertLessEqual(len(node.generators[0].ifs), 1, (name, node.lineno))

    def test_is_stands_beside_none_true_and_false(self):
        for name, node in nodes(ast.Compare):
            for operator, right in zip(node.ops, node.comparators):
                if isinstance(operator, (ast.Is, ast.IsNot)):
                    self.assertTrue(isinstance(right, ast.Constant) and right.value in (None, True, False), name)

    def test_functions_and_classes(self):
        for name, node in nodes(ast.FunctionDef):
            given = node.args
            plain = not (given.vararg or given.kwarg or given.kwonlyargs or given.posonlyargs or node.decorator_list)
            self.assertTrue(plain, (name, node.name))
        for name, node in nodes(ast.ClassDef):
            self.assertTrue(len(node.bases) <= 1 and not node.decorator_list and not node.keywords, node.name)
            for row in node.body:
                self.assertIsInstance(row, (ast.FunctionDef, ast.Expr), (name, node.name))

    def test_errors_taken(self):
        for name, node in nodes(ast.ExceptHandler):
            self.assertIsInstance(node.type, (ast.Name, ast.Tuple), (name, node.lineno))
            self.assertNotIn(getattr(node.type, "id", None), ["Exception", "TypeError"], (name, node.lineno))


class Names(unittest.TestCase):
    def test_python_names(self):
        for name, tree in trees():
            own = bound_at_top(tree) + imported(tree)
            for node in ast.walk(tree):
                if isinstance(node, ast.Name) and node.id in dir(builtins) and node.id not in own:
                    allowed = BUILTINS + ["print"] if name == "__main__.py" else BUILTINS
                    self.assertIn(node.id, allowed, (name, node.lineno))
                    self.assertIsInstance(node.ctx, ast.Load, (name, node.lineno))

    def test_bound_names(self):
        for name, tree in trees():
            top = bound_at_top(tree) + imported(tree)
            self.assertEqual(len(top), len(set(top)), name)
            classes = [node.name for node in tree.body if isinstance(node, ast.ClassDef)]
            taken = classes + imported(tree) + dir(builtins)
            for node in ast.walk(tree):
                if isinstance(node, ast.arg):
                    self.assertNotIn(node.arg, taken, (name, node.lineno))
                if isinstance(node, ast.Name) and isinstance(node.ctx, ast.Store):
                    self.assertNotIn(node.id, taken, (name, node.lineno))

    def test_no_name_begins_with_an_underscore(self):
        found = [(node.id, name) for name, node in nodes(ast.Name)]
        found += [(node.arg, name) for name, node in nodes(ast.arg)]
        found += [(node.attr, name) for name, node in nodes(ast.Attribute) if node.attr not in DUNDERS]
        found += [(node.name, name) for name, node in nodes((ast.FunctionDef, ast.ClassDef))
                  if node.name not in DUNDERS]
        for word, name in found:
            if (word, name) != ("__name__", "__main__.py"):
                self.assertFalse(word.startswith("_"), (name, word))

    def test_methods_and_values_are_apart(self):
        methods = [row.name for name, node in nodes(ast.ClassDef) for row in node.body
                   if isinstance(row, ast.FunctionDef)]
        stored = [node.attr for name, node in nodes(ast.Attribute) if isinstance(node.ctx, ast.Store)]
        self.assertEqual(set(methods) & set(stored), set())
        for name, node in nodes(ast.Call):
            if isinstance(node.func, ast.Attribute) and name != "__main__.py":
                self.assertIn(node.func.attr, METHODS + methods + DUNDERS, (name, node.lineno))


if __name__ == "__main__":
    unittest.main()
