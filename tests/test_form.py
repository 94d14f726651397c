"""The rules of form for the package's own files, as far as their text alone shows them."""

import ast
import builtins
import keyword
import re
import sys
import unittest
from pathlib import Path

import rollgrind

FOLDER = Path(rollgrind.__file__).parent
PATHS = sorted(path for path in FOLDER.rglob("*") if "__pycache__" not in path.parts)
TEXTS = {path.stem: path.read_bytes().decode("ascii") for path in PATHS if path.suffix == ".py"}
TREES = {name: ast.parse(text) for name, text in TEXTS.items()}

NODES = """
    Module Import ImportFrom alias FunctionDef ClassDef arguments arg Lambda Assign AugAssign If While For Return
    Break Continue Pass Raise Try ExceptHandler Expr Call keyword Constant List Tuple Dict Set BinOp UnaryOp BoolOp
    Compare IfExp Attribute Subscript Slice ListComp comprehension JoinedStr FormattedValue Name Load Store
    Add Sub Mult FloorDiv Mod Pow LShift RShift BitOr BitXor BitAnd Invert Not USub UAdd And Or
    Eq NotEq Lt LtE Gt GtE Is IsNot In NotIn
""".split()

PYTHONS_OWN = """
    len range enumerate zip min max sum abs sorted reversed int str bool list tuple dict set frozenset isinstance
    ord repr any all divmod Exception ValueError TypeError KeyError IndexError LookupError ZeroDivisionError
    ArithmeticError OverflowError RuntimeError NotImplementedError AttributeError StopIteration
""".split()

METHODS = """
    append clear copy count endswith extend find get index insert isalnum isalpha isdigit islower isspace isupper
    items join keys ljust lower lstrip partition pop remove replace reverse rfind rjust rpartition rsplit rstrip
    setdefault split splitlines startswith strip update upper values zfill bit_length
""".split()

CHANGING_METHODS = "append clear extend insert pop remove reverse setdefault update".split()

UNUSED_NAMES = """
    register mro elements open input version_info with_traceback add_note attrgetter breakpoint builtins compile
    copyright credits delattr dir eval exec exit gc getattr globals hasattr help id importlib license locals
    methodcaller os quit setattr super type vars sys
""".split()

UNUSED_WORDS = """
    type typing typing_extensions enum Enum IntEnum StrEnum Flag IntFlag Generic Protocol ABC ABCMeta namedtuple
    NamedTuple TypedDict TYPE_CHECKING abstractmethod
""".split()

UNUSED_PARTS = ["dataclass", "overload", "contextmanager"]


def nodes(kind):
    return [(name, node) for name, tree in TREES.items() for node in ast.walk(tree) if isinstance(node, kind)]


def defined_in(tree):
    return [node.name for node in tree.body if isinstance(node, (ast.FunctionDef, ast.ClassDef))]


def assigned_in(tree):
    return [target.id for node in tree.body if isinstance(node, ast.Assign) for target in node.targets]


def imported_in(tree):
    return [alias.name for node in tree.body if isinstance(node, ast.ImportFrom) for alias in node.names]


def plain(node):
    if isinstance(node, ast.UnaryOp):
        return isinstance(node.op, ast.USub) and plain(node.operand)
    return isinstance(node, ast.Constant) and (node.value is None or isinstance(node.value, (int, str)))


class TestFiles(unittest.TestCase):
    def test_names_of_files(self):
        for path in PATHS:
            self.assertTrue(path.is_file() and path.suffix == ".py", path)
            self.assertTrue(path.stem == "__init__" or re.fullmatch("[a-z][a-z0-9_]*", path.stem), path)
            self.assertFalse(path.stem.startswith("test") or path.stem in dir(builtins) + UNUSED_WORDS, path)
            self.assertNotIn(path.stem, sys.stdlib_module_names)
        self.assertIn("__init__", TEXTS)
        self.assertIn("answers", defined_in(TREES["mill"]))

    def test_signs_and_sizes(self):
        for name, text in TEXTS.items():
            self.assertEqual(re.findall("[^ -~\n]", text), [], name)
            lines = text.splitlines()
            self.assertLessEqual(len(lines), 399, name)
            self.assertLessEqual(max(len(line) for line in lines), 120, name)
        for name, node in nodes(ast.FunctionDef):
            self.assertLessEqual(node.end_lineno - node.lineno + 1, 40, (name, node.name))

    def test_words_that_are_not_used(self):
        for name, text in TEXTS.items():
            self.assertEqual(set(re.findall(r"\w+", text)) & set(UNUSED_WORDS), set(), name)
            self.assertEqual([part for part in UNUSED_PARTS if part in text], [], name)


class TestTops(unittest.TestCase):
    def test_rows_of_the_top(self):
        for name, tree in TREES.items():
            self.assertIsNotNone(ast.get_docstring(tree), name)
            for node in tree.body[1:]:
                self.assertIsInstance(node, (ast.ImportFrom, ast.FunctionDef, ast.ClassDef, ast.Assign), name)
                self.assertTrue(not isinstance(node, ast.Assign) or plain(node.value), name)

    def test_each_name_once(self):
        for name, tree in TREES.items():
            bound = defined_in(tree) + assigned_in(tree) + imported_in(tree)
            self.assertEqual(sorted(bound), sorted(set(bound)), name)
        self.assertEqual([name for name, tree in TREES.items() if "answers" in defined_in(tree)], ["mill"])

    def test_imports(self):
        self.assertEqual(nodes(ast.Import), [])
        for name, node in nodes(ast.ImportFrom):
            self.assertEqual(node.level, 0, name)
            source = re.fullmatch("rollgrind[.]([a-z0-9_]+)", node.module)[1]
            for alias in node.names:
                self.assertIsNone(alias.asname, name)
                self.assertIn(alias.name, defined_in(TREES[source]) + assigned_in(TREES[source]), name)

    def test_no_two_files_draw_from_one_another(self):
        left = {name: {node.module.split(".")[1] for node in ast.walk(tree) if isinstance(node, ast.ImportFrom)}
                for name, tree in TREES.items()}
        while left:
            free = [name for name, drawn in left.items() if not drawn & set(left)]
            self.assertNotEqual(free, [], left)
            left = {name: drawn for name, drawn in left.items() if name not in free}


class TestNodes(unittest.TestCase):
    def test_kinds(self):
        for name, node in nodes(ast.AST):
            self.assertIn(node.__class__.__name__, NODES, (name, getattr(node, "lineno", 0)))

    def test_values(self):
        for name, node in nodes(ast.Constant):
            self.assertTrue(plain(node), (name, node.lineno))
        for name, node in nodes(ast.BinOp):
            self.assertFalse(isinstance(node.op, ast.Pow) and not plain(node.right), (name, node.lineno))

    def test_statements(self):
        for name, node in nodes(ast.Assign):
            self.assertEqual(len(node.targets), 1, (name, node.lineno))
            self.assertNotIsInstance(node.targets[0], (ast.Tuple, ast.List), (name, node.lineno))
        for name, node in nodes((ast.For, ast.While)):
            self.assertEqual(node.orelse, [], (name, node.lineno))
        for name, node in nodes(ast.Try):
            self.assertEqual(node.finalbody, [], (name, node.lineno))
        for name, node in nodes(ast.Expr):
            if not (isinstance(node.value, ast.Constant) and node in TREES[name].body[:1]):
                self.assertIsInstance(node.value, ast.Call, (name, node.lineno))
        for name, node in nodes(ast.ListComp):
            self.assertEqual(len(node.generators), 1, (name, node.lineno))
            self.assertLessEqual(len(node.generators[0].ifs), 1, (name, node.lineno))

    def test_is_beside_none_true_and_false(self):
        for name, node in nodes(ast.Compare):
            for operator, right in zip(node.ops, node.comparators):
                if isinstance(operator, (ast.Is, ast.IsNot)):
                    self.assertIn(ast.unparse(right), ("None", "True", "False"), (name, node.lineno))

    def test_defs(self):
        for name, node in nodes(ast.FunctionDef):
            told = (name, node.name)
            self.assertEqual((node.decorator_list, node.returns), ([], None), told)
            self.assertEqual((node.args.vararg, node.args.kwarg), (None, None), told)
            self.assertEqual((node.args.kwonlyargs, node.args.posonlyargs, node.args.defaults), ([], [], []), told)
        for name, node in nodes(ast.ClassDef):
            self.assertEqual((node.decorator_list, node.keywords), ([], []), (name, node.name))
            self.assertLessEqual(len(node.bases), 1, (name, node.name))
            for row in node.body:
                self.assertIsInstance(row, (ast.FunctionDef, ast.Pass), (name, node.name))

    def test_own_errors_alone_are_raised_and_taken(self):
        own = defined_in(TREES["refusals"])
        for name, node in nodes(ast.ExceptHandler):
            self.assertIn(ast.unparse(node.type), own, (name, node.lineno))
        for name, node in nodes(ast.Raise):
            self.assertIn(ast.unparse(node.exc.func), own, (name, node.lineno))


class TestPlainerThanAsked(unittest.TestCase):
    """The package does without some of what the rules allow, so that their finer points need no look."""

    def test_no_sets_lambdas_powers_or_keywords(self):
        for name, node in nodes((ast.Set, ast.Lambda, ast.Pow, ast.keyword, ast.JoinedStr)):
            self.fail((name, ast.dump(node)))
        for name, node in nodes(ast.Name):
            self.assertNotIn(node.id, ("set", "frozenset"), (name, node.lineno))

    def test_texts_are_docstrings_alone(self):
        for name, node in nodes(ast.Constant):
            if isinstance(node.value, str):
                self.assertEqual(node.lineno, 1, (name, node.lineno))
                self.assertNotIn("%", node.value, name)

    def test_walks_stand_behind_in(self):
        walked = [node.iter for _, node in nodes((ast.For, ast.comprehension))]
        for name, node in nodes(ast.Call):
            if isinstance(node.func, ast.Name) and node.func.id in ("range", "zip", "enumerate", "reversed"):
                self.assertIn(node, walked, (name, node.lineno))

    def test_what_a_loop_walks_is_not_changed_in_it(self):
        for name, loop in nodes(ast.For):
            walked = {ast.unparse(node) for node in ast.walk(loop.iter) if isinstance(node, (ast.Name, ast.Attribute))}
            for node in [node for row in loop.body for node in ast.walk(row)]:
                changed = None
                if isinstance(node, ast.Attribute) and node.attr in CHANGING_METHODS:
                    changed = node.value
                if isinstance(node, ast.Subscript) and isinstance(node.ctx, ast.Store):
                    changed = node.value
                if changed is not None:
                    self.assertNotIn(ast.unparse(changed), walked, (name, node.lineno))

    def test_methods_with_two_underscores(self):
        for name, node in nodes(ast.FunctionDef):
            if node.name.startswith("_"):
                self.assertEqual(node.name, "__init__", name)
                self.assertEqual([row for row in ast.walk(node) if isinstance(row, ast.Return)], [], name)


class TestNames(unittest.TestCase):
    def test_pythons_own_and_classes_are_not_kept_or_handed_on(self):
        classes = {node.name for _, node in nodes(ast.ClassDef)}
        free = [node.func for _, node in nodes(ast.Call)] + [node.type for _, node in nodes(ast.ExceptHandler)]
        free += [base for _, node in nodes(ast.ClassDef) for base in node.bases]
        for name, node in nodes(ast.Name):
            if node.id in classes or node.id in PYTHONS_OWN:
                self.assertIn(node, free, (name, node.lineno))

    def bound(self):
        for name, node in nodes((ast.Name, ast.arg)):
            if isinstance(node, ast.arg):
                yield name, node.arg
            elif isinstance(node.ctx, ast.Store):
                yield name, node.id

    def test_bound_names(self):
        classes = {node.name for _, node in nodes(ast.ClassDef)}
        for name, word in self.bound():
            self.assertRegex(word, "^[A-Za-z][A-Za-z0-9_]*$", name)
            self.assertNotIn(word, dir(builtins) + UNUSED_NAMES + keyword.softkwlist, name)
            self.assertNotIn(word, classes | set(imported_in(TREES[name])), name)

    def test_names_of_pythons_own(self):
        for name, node in nodes(ast.Name):
            if node.id in dir(builtins):
                self.assertIn(node.id, PYTHONS_OWN, (name, node.lineno))

    def test_methods_and_values_of_objects(self):
        methods = {row.name for _, node in nodes(ast.ClassDef) for row in node.body if isinstance(row, ast.FunctionDef)}
        values = {node.attr for _, node in nodes(ast.Attribute) if isinstance(node.ctx, ast.Store)}
        self.assertEqual(methods & values, set())
        called = [node.func for _, node in nodes(ast.Call) if isinstance(node.func, ast.Attribute)]
        for name, node in nodes(ast.Attribute):
            wanted = methods | set(METHODS) if node in called else values
            self.assertIn(node.attr, wanted, (name, node.lineno))
        for word in methods - {"__init__"} | values:
            self.assertRegex(word, "^[A-Za-z][A-Za-z0-9_]*$")
            self.assertNotIn(word, UNUSED_NAMES)


if __name__ == "__main__":
    unittest.main()
