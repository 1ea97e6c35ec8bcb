"""The part of Python that the package keeps to, as far as the rules (L1 to L28) can be read off its files."""

import ast
import builtins
import pathlib
import re
import unittest

PACKAGE = pathlib.Path(__file__).resolve().parent.parent / "evenpieces"

MODULES = """
    __init__.py aparts.py bounds.py desk.py errors.py fewests.py goods.py moves.py papers.py rules.py runs.py shuts.py
    stands.py texts.py webs.py yards.py
""".split()

NODES = """
    Module Expr Import ImportFrom alias FunctionDef ClassDef arguments arg Return Assign AugAssign AnnAssign If While
    For Break Continue Pass Raise Try ExceptHandler Call Attribute Subscript Slice Name Load Store Constant List Tuple
    Dict Set ListComp comprehension BoolOp And Or UnaryOp Not USub UAdd Invert BinOp Add Sub Mult FloorDiv Mod Pow
    BitAnd BitOr BitXor LShift RShift Compare Eq NotEq Lt LtE Gt GtE Is IsNot In NotIn IfExp Lambda JoinedStr
    FormattedValue keyword
""".split()

BUILTINS = """
    len range enumerate zip min max sum abs sorted reversed int str bool list tuple dict set frozenset isinstance ord
    repr any all divmod Exception ValueError TypeError KeyError IndexError LookupError ZeroDivisionError
    ArithmeticError OverflowError RuntimeError NotImplementedError AttributeError StopIteration
""".split()

METHODS = """
    append clear copy count endswith extend find get index insert isalnum isalpha isdigit islower isspace isupper items
    join keys ljust lower lstrip partition pop remove replace reverse rfind rjust rpartition rsplit rstrip setdefault
    split splitlines startswith strip update upper values zfill bit_length
""".split()

DUNDERS = ["__init__", "__eq__", "__repr__", "__str__", "__len__"]

WORDS = re.compile(
    r"\b(type|typing|typing_extensions|enum|Enum|IntEnum|StrEnum|Flag|IntFlag|Generic|Protocol|ABC|ABCMeta|namedtuple"
    r"|NamedTuple|TypedDict|TYPE_CHECKING|abstractmethod)\b|dataclass|overload|contextmanager"
)

UNUSED_ANYWHERE = """
    register mro elements open input version_info with_traceback add_note f_back f_code f_globals f_locals tb_next
    tb_frame co_names co_code gi_frame cr_frame format format_map
""".split()


UNUSED_NAMES = """
    attrgetter breakpoint builtins compile copyright credits delattr dir eval exec exit gc getattr globals hasattr help
    id importlib license locals methodcaller os quit setattr super type vars sys chr
""".split()

KEYWORDS = {
    "sorted": ["key", "reverse"], "min": ["key", "default"], "max": ["key", "default"], "sum": ["start"],
    "enumerate": ["start"], "zip": ["strict"],
}

WALKED = ["zip", "enumerate", "reversed", "range"]
VIEWS = ["items", "keys", "values"]
WALKERS = ["list", "tuple", "dict", "sorted", "sum", "any", "all", "enumerate", "zip", "min", "max"]


def package_files():
    return sorted(path for path in PACKAGE.rglob("*") if path.is_file() and path.suffix != ".pyc")


def trees():
    return [(path.name, ast.parse(path.read_text(encoding="utf-8"))) for path in package_files()]


def nodes(kind):
    return [(name, node) for name, tree in trees() for node in ast.walk(tree) if isinstance(node, kind)]


def bound_at_top(tree):
    names = []
    for node in tree.body:
        if isinstance(node, (ast.FunctionDef, ast.ClassDef)):
            names.append(node.name)
        if isinstance(node, ast.Assign):
            names.extend(target.id for target in node.targets)
    return names


def with_parents():
    """(file, node, its parent) for all nodes but the modules."""
    return [(name, child, node) for name, tree in trees() for node in ast.walk(tree)
            for child in ast.iter_child_nodes(node)]


def called(node):
    """The name that is called, or None."""
    return node.func.id if isinstance(node, ast.Call) and isinstance(node.func, ast.Name) else None


def method_called(node):
    """The method that is called, or None."""
    return node.func.attr if isinstance(node, ast.Call) and isinstance(node.func, ast.Attribute) else None


def imported(tree):
    return [alias.name for node in tree.body if isinstance(node, ast.ImportFrom) for alias in node.names]


class Files(unittest.TestCase):
    def test_there_are_files(self):
        names = [path.name for path in package_files()]
        for name in MODULES:
            self.assertIn(name, names)

    def test_names(self):
        for path in package_files():
            self.assertRegex(path.name, r"^(__init__|__main__|[a-z][a-z0-9_]*)\.py$")
            self.assertNotIn(path.stem, dir(builtins))
            self.assertNotRegex(path.stem, r"^(tests?|testing|test_.*|site|conftest|sitecustomize|usercustomize)$")

    def test_signs_words_and_sizes(self):
        for path in package_files():
            text = path.read_bytes().decode("utf-8")
            with self.subTest(file=path.name):
                self.assertRegex(text, r"\A[\n -~]*\Z")
                self.assertIsNone(WORDS.search(text))
                self.assertLessEqual(len(text.splitlines()), 400)
                self.assertLessEqual(max(len(line) for line in text.splitlines()), 120)

    def test_functions_are_short(self):
        for name, node in nodes(ast.FunctionDef):
            self.assertLessEqual(node.end_lineno - node.lineno + 1, 40, (name, node.name))


class Imports(unittest.TestCase):
    def test_they_are_drawn_from_the_file_that_defines_the_name(self):
        tops = {"evenpieces." + name[:-3]: bound_at_top(tree) for name, tree in trees()}
        self.assertEqual([name for name, node in nodes(ast.Import) if name != "__main__.py"], [])
        for name, node in nodes(ast.ImportFrom):
            self.assertEqual(node.level, 0)
            self.assertIn(node.module, tops)
            for alias in node.names:
                self.assertIn(alias.name, tops[node.module], (name, alias.name))

    def test_no_ring_of_files(self):
        drawn = {name: [] for name, tree in trees()}
        for name, node in nodes(ast.ImportFrom):
            drawn[name].append(node.module.split(".")[-1] + ".py")
        while drawn:
            ready = [name for name in drawn if not any(other in drawn for other in drawn[name])]
            self.assertNotEqual(ready, [], "these draw from one another: " + " ".join(drawn))
            drawn = {name: drawn[name] for name in drawn if name not in ready}


class Code(unittest.TestCase):
    def test_kinds_of_nodes(self):
        for name, node in nodes(ast.AST):
            self.assertIn(node.__class__.__name__, NODES, (name, getattr(node, "lineno", None)))

    def test_values(self):
        for name, node in nodes(ast.Constant):
            self.assertTrue(node.value is None or isinstance(node.value, (int, str)), (name, node.lineno))
            if isinstance(node.value, str):
                self.assertNotIn("%", node.value, (name, node.lineno))

    def test_assignments_loops_and_comprehensions(self):
        for name, node in nodes(ast.Assign):
            self.assertEqual(len(node.targets), 1, (name, node.lineno))
        for name, node in nodes((ast.For, ast.While)):
            self.assertEqual(node.orelse, [], (name, node.lineno))
        for name, node in nodes(ast.ListComp):
            self.assertEqual(len(node.generators), 1, (name, node.lineno))
            self.assertLessEqual(len(node.generators[0].ifs), 1, (name, node.lineno))

    def test_is_stands_beside_none_true_and_false(self):
        for name, node in nodes(ast.Compare):
            for operator, right in zip(node.ops, node.comparators):
                if isinstance(operator, (ast.Is, ast.IsNot)):
                    self.assertTrue(isinstance(right, ast.Constant) and right.value in (None, True, False), name)

    def test_functions_and_classes(self):
        for name, node in nodes(ast.FunctionDef):
            given = node.args
            plain = not (given.vararg or given.kwarg or given.kwonlyargs or given.posonlyargs or node.decorator_list)
            self.assertTrue(plain, (name, node.name))
        for name, node in nodes(ast.ClassDef):
            self.assertTrue(len(node.bases) <= 1 and not node.decorator_list and not node.keywords, node.name)
            for row in node.body:
                self.assertIsInstance(row, (ast.FunctionDef, ast.Expr), (name, node.name))

    def test_errors_taken_are_the_programs_own(self):
        own = [node.name for name, node in nodes(ast.ClassDef)]
        for name, node in nodes(ast.ExceptHandler):
            self.assertIn(getattr(node.type, "id", None), own, (name, node.lineno))
            for row in ast.walk(node):
                if isinstance(row, ast.Raise) and row.cause is not None:
                    cause = getattr(row.cause, "id", None) or getattr(row.cause, "value", "none")
                    self.assertIn(cause, [node.name, None], (name, row.lineno))

    def test_making_gives_back_nothing(self):
        for name, node in nodes(ast.FunctionDef):
            if node.name == "__init__":
                self.assertFalse(any(isinstance(row, ast.Return) for row in ast.walk(node)), name)

    def test_texts_with_names_in_braces(self):
        for name, node in nodes(ast.FormattedValue):
            self.assertIsInstance(node.value, ast.Name, (name, node.lineno))
            self.assertIsNone(node.format_spec, (name, node.lineno))
            self.assertIn(node.conversion, [-1, ord("r")], (name, node.lineno))

    def test_escapes(self):
        for path in package_files():
            text = path.read_text(encoding="utf-8").replace("\\\\", "")
            self.assertEqual(re.findall(r"\\[^nt\"']", text), [], path.name)

    def test_isinstance_names_classes(self):
        own = [node.name for name, node in nodes(ast.ClassDef)]
        for name, node in nodes(ast.Call):
            if called(node) == "isinstance":
                self.assertIn(node.args[1].id, own + ["int", "str", "bool", "list", "tuple", "dict"], name)


class Tops(unittest.TestCase):
    def test_rows_at_the_top(self):
        for name, tree in trees():
            self.assertIsNotNone(ast.get_docstring(tree), name)
            for row in tree.body[1:]:
                self.assertIsInstance(row, (ast.ImportFrom, ast.FunctionDef, ast.ClassDef, ast.Assign), name)

    def test_values_at_the_top_are_plain_and_hold_no_list_or_dict(self):
        for name, tree in trees():
            for row in tree.body:
                if isinstance(row, ast.Assign):
                    ast.literal_eval(row.value)
                    inner = [node for node in ast.walk(row.value) if node is not row.value]
                    self.assertFalse(any(isinstance(node, (ast.List, ast.Dict, ast.Set)) for node in inner), name)

    def test_lists_and_dicts_of_the_top_are_only_read(self):
        kept = [row.targets[0].id for name, tree in trees() for row in tree.body
                if isinstance(row, ast.Assign) and isinstance(row.value, (ast.List, ast.Dict))]
        for name, node, parent in with_parents():
            if isinstance(node, ast.Name) and node.id in kept and isinstance(node.ctx, ast.Load):
                is_indexed = isinstance(parent, ast.Subscript) and isinstance(parent.ctx, ast.Load)
                is_read = is_indexed or isinstance(parent, (ast.Compare, ast.For, ast.comprehension))
                is_read = is_read or isinstance(parent, ast.Attribute) and parent.attr in VIEWS + ["get"]
                self.assertTrue(is_read or called(parent) in ["len", "sorted", "list", "dict"], (name, node.lineno))

    def test_classes_are_called_bases_or_named_by_isinstance(self):
        classes = [node.name for name, node in nodes(ast.ClassDef)]
        for name, node, parent in with_parents():
            if isinstance(node, ast.Name) and node.id in classes:
                is_called = isinstance(parent, ast.Call) and (parent.func is node or called(parent) == "isinstance")
                is_base_init = isinstance(parent, ast.Attribute) and parent.attr == "__init__"
                self.assertTrue(is_called or is_base_init or isinstance(parent, (ast.ClassDef, ast.ExceptHandler)),
                                (name, node.lineno))


class Calls(unittest.TestCase):
    def test_keywords(self):
        for name, node in nodes(ast.Call):
            for keyword in node.keywords:
                self.assertIn(keyword.arg, KEYWORDS.get(called(node), []), (name, node.lineno))

    def test_what_python_walks_is_walked_on_the_spot(self):
        for name, node, parent in with_parents():
            if called(node) in WALKED or method_called(node) in VIEWS:
                is_walked = isinstance(parent, (ast.For, ast.comprehension)) and parent.iter is node
                is_walked = is_walked or called(parent) in WALKERS and parent.args[0] is node
                self.assertTrue(is_walked, (name, node.lineno))

    def test_own_names_of_python_are_called_not_kept(self):
        functions = [word for word in BUILTINS if word.islower() and word not in ["int", "str", "bool", "list", "tuple",
                                                                                  "dict", "set", "frozenset"]]
        for name, node, parent in with_parents():
            if isinstance(node, ast.Name) and node.id in functions and not isinstance(parent, ast.keyword):
                self.assertTrue(isinstance(parent, ast.Call) and parent.func is node, (name, node.lineno))

    def test_methods_are_called_where_they_stand(self):
        methods = [row.name for name, node in nodes(ast.ClassDef) for row in node.body
                   if isinstance(row, ast.FunctionDef)]
        for name, node, parent in with_parents():
            if isinstance(node, ast.Attribute) and node.attr in METHODS + methods:
                self.assertTrue(isinstance(parent, ast.Call) and parent.func is node, (name, node.lineno))

    def test_no_sets(self):
        self.assertEqual([(name, node.lineno) for name, node in nodes((ast.Set, ast.SetComp))], [])
        for name, node, parent in with_parents():
            if called(node) in ["set", "frozenset"]:
                self.assertTrue(isinstance(parent, ast.Compare) or called(parent) in ["sorted", "len"], name)

    def test_what_a_loop_walks_is_not_changed_in_it(self):
        changing = ["append", "clear", "extend", "insert", "pop", "remove", "reverse", "setdefault", "update"]
        for name, loop in nodes(ast.For):
            walked = [node.id for node in ast.walk(loop.iter) if isinstance(node, ast.Name)]
            for row in loop.body:
                for node in ast.walk(row):
                    if method_called(node) in changing and isinstance(node.func.value, ast.Name):
                        self.assertNotIn(node.func.value.id, walked, (name, node.lineno))
                    if isinstance(node, ast.Subscript) and isinstance(node.ctx, ast.Store):
                        self.assertNotIn(getattr(node.value, "id", None), walked, (name, node.lineno))

    def test_two_lambdas_do_not_stand_on_one_line(self):
        lines = [(name, node.lineno) for name, node in nodes(ast.Lambda)]
        self.assertEqual(len(lines), len(set(lines)))

    def test_errors_are_made_on_the_spot(self):
        for name, node in nodes(ast.Raise):
            self.assertIsInstance(node.exc, ast.Call, (name, node.lineno))
        self.assertEqual([(name, node.lineno) for name, node in nodes(ast.Call)
                          if called(node) in BUILTINS and called(node).endswith("Error")], [])

    def test_no_annotations(self):
        self.assertEqual([name for name, node in nodes(ast.AnnAssign)], [])
        self.assertEqual([name for name, node in nodes(ast.arg) if node.annotation], [])
        self.assertEqual([name for name, node in nodes(ast.FunctionDef) if node.returns], [])

    def test_powers_have_a_written_exponent(self):
        for name, node in nodes(ast.BinOp):
            if isinstance(node.op, ast.Pow):
                self.assertIn(getattr(node.right, "value", None), range(65), (name, node.lineno))


class Names(unittest.TestCase):
    def test_names_that_are_not_used(self):
        for name, node in nodes(ast.Name):
            self.assertNotIn(node.id, UNUSED_NAMES + UNUSED_ANYWHERE, (name, node.lineno))
        for name, node in nodes(ast.Attribute):
            self.assertNotIn(node.attr, UNUSED_ANYWHERE, (name, node.lineno))
        for name, node in nodes((ast.FunctionDef, ast.ClassDef)):
            self.assertNotIn(node.name, UNUSED_NAMES + UNUSED_ANYWHERE, (name, node.lineno))
        for name, node in nodes(ast.arg):
            self.assertNotIn(node.arg, UNUSED_NAMES + UNUSED_ANYWHERE, (name, node.lineno))

    def test_python_names(self):
        for name, tree in trees():
            own = bound_at_top(tree) + imported(tree)
            for node in ast.walk(tree):
                if isinstance(node, ast.Name) and node.id in dir(builtins) and node.id not in own:
                    allowed = BUILTINS + ["print"] if name == "__main__.py" else BUILTINS
                    self.assertIn(node.id, allowed, (name, node.lineno))
                    self.assertIsInstance(node.ctx, ast.Load, (name, node.lineno))

    def test_bound_names(self):
        for name, tree in trees():
            top = bound_at_top(tree) + imported(tree)
            self.assertEqual(len(top), len(set(top)), name)
            classes = [node.name for node in tree.body if isinstance(node, ast.ClassDef)]
            taken = classes + imported(tree) + dir(builtins) + UNUSED_NAMES
            for node in ast.walk(tree):
                if isinstance(node, ast.arg):
                    self.assertNotIn(node.arg, taken, (name, node.lineno))
                if isinstance(node, ast.Name) and isinstance(node.ctx, ast.Store):
                    self.assertNotIn(node.id, taken, (name, node.lineno))

    def test_no_name_begins_with_an_underscore(self):
        found = [(node.id, name) for name, node in nodes(ast.Name)]
        found += [(node.arg, name) for name, node in nodes(ast.arg)]
        found += [(node.attr, name) for name, node in nodes(ast.Attribute) if node.attr not in DUNDERS]
        found += [(node.name, name) for name, node in nodes((ast.FunctionDef, ast.ClassDef))
                  if node.name not in DUNDERS]
        for word, name in found:
            if (word, name) != ("__name__", "__main__.py"):
                self.assertFalse(word.startswith("_"), (name, word))

    def test_methods_and_values_are_apart(self):
        methods = [row.name for name, node in nodes(ast.ClassDef) for row in node.body
                   if isinstance(row, ast.FunctionDef)]
        stored = [node.attr for name, node in nodes(ast.Attribute) if isinstance(node.ctx, ast.Store)]
        self.assertEqual(set(methods) & set(stored), set())
        for name, node in nodes(ast.Call):
            if isinstance(node.func, ast.Attribute) and name != "__main__.py":
                self.assertIn(node.func.attr, METHODS + methods + DUNDERS, (name, node.lineno))


if __name__ == "__main__":
    unittest.main()
