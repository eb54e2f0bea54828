"""The form of the package's own files: those rules of the language part that a machine can see."""

import ast
import builtins
import pathlib
import re
import unittest

FOLDER = pathlib.Path(__file__).resolve().parent.parent / "manymakes"

NODES = (
    "Module Expr ImportFrom alias FunctionDef arguments arg Lambda ClassDef Assign AugAssign If While For Return Break "
    "Continue Pass Raise Try ExceptHandler Name Attribute Subscript Slice Call keyword Constant List Tuple Dict "
    "ListComp comprehension IfExp JoinedStr FormattedValue BoolOp And Or UnaryOp Not USub UAdd Invert BinOp Add Sub "
    "Mult FloorDiv Mod Pow LShift RShift BitOr BitXor BitAnd Compare Eq NotEq Lt LtE Gt GtE Is IsNot In NotIn Load Store"
).split()
PYTHON_NAMES = (
    "len range enumerate zip min max sum abs sorted reversed int str bool list tuple dict set frozenset isinstance ord "
    "repr any all divmod Exception ValueError TypeError KeyError IndexError LookupError ZeroDivisionError "
    "ArithmeticError OverflowError RuntimeError NotImplementedError AttributeError StopIteration"
).split()
METHODS = (
    "append clear copy count endswith extend find get index insert isalnum isalpha isdigit islower isspace isupper "
    "items join keys ljust lower lstrip partition pop remove replace reverse rfind rjust rpartition rsplit rstrip "
    "setdefault split splitlines startswith strip update upper values zfill bit_length"
).split()
UNSAID = (
    "type typing typing_extensions enum Enum IntEnum StrEnum Flag IntFlag Generic Protocol ABC ABCMeta namedtuple "
    "NamedTuple TypedDict TYPE_CHECKING abstractmethod"
).split()
DOUBLE = ("__init__", "__eq__", "__repr__", "__str__", "__len__")


def parsed():
    return {path.stem: ast.parse(path.read_text("ascii")) for path in sorted(FOLDER.glob("*.py"))}


def walked():
    return [(stem, node) for stem, tree in parsed().items() for node in ast.walk(tree)]


def bound_at_top(tree):
    names = []
    for node in tree.body:
        if isinstance(node, (ast.FunctionDef, ast.ClassDef)):
            names.append(node.name)
        elif isinstance(node, ast.Assign):
            names.append(node.targets[0].id)
    return names


def drawn(tree):
    return [node for node in tree.body if isinstance(node, ast.ImportFrom)]


class Files(unittest.TestCase):
    def test_names(self):
        lying = [path.name for path in FOLDER.iterdir() if path.name != "__pycache__"]
        self.assertIn("__init__.py", lying)
        for name in lying:
            self.assertRegex(name, r"^(__init__|__main__|[a-z][a-z0-9_]*)\.py$")

    def test_signs_and_sizes(self):
        for path in FOLDER.glob("*.py"):
            raw = path.read_bytes()
            self.assertEqual([sign for sign in raw if sign != 10 and not 32 <= sign <= 126], [], path.name)
            rows = raw.decode("ascii").splitlines()
            self.assertLessEqual(len(rows), 400, path.name)
            self.assertLessEqual(max(map(len, rows)), 120, path.name)

    def test_words_that_stand_nowhere(self):
        for path in FOLDER.glob("*.py"):
            text = path.read_text("ascii")
            self.assertEqual(sorted(set(re.findall(r"\w+", text)) & set(UNSAID)), [], path.name)
            self.assertIsNone(re.search("dataclass|overload|contextmanager", text), path.name)


class Imports(unittest.TestCase):
    def test_each_draws_a_name_from_the_file_that_defines_it(self):
        trees = parsed()
        for stem, tree in trees.items():
            for node in drawn(tree):
                self.assertEqual(node.level, 0)
                package, dot, source = node.module.partition(".")
                self.assertEqual((package, source in trees), ("manymakes", True), (stem, node.module))
                for name in node.names:
                    self.assertIn(name.name, bound_at_top(trees[source]), (stem, node.module))
                    self.assertIsNone(name.asname)

    def test_no_two_files_draw_from_one_another(self):
        left = {stem: {node.module.partition(".")[2] for node in drawn(tree)} for stem, tree in parsed().items()}
        while left:
            free = [stem for stem in left if not left[stem] & set(left)]
            self.assertNotEqual(free, [], left)
            for stem in free:
                left.pop(stem)


class Code(unittest.TestCase):
    def test_only_nodes_of_the_small_part(self):
        for stem, node in walked():
            self.assertIn(node.__class__.__name__, NODES, (stem, getattr(node, "lineno", None)))

    def test_functions(self):
        for stem, node in walked():
            if isinstance(node, ast.FunctionDef):
                self.assertLessEqual(node.end_lineno - node.lineno + 1, 40, (stem, node.name))
                self.assertEqual(node.decorator_list, [], (stem, node.name))
                more = (node.args.vararg, node.args.kwarg, node.args.kwonlyargs, node.args.posonlyargs)
                self.assertEqual(more, (None, None, [], []), (stem, node.name))

    def test_no_else_behind_a_loop_and_one_target(self):
        for stem, node in walked():
            if isinstance(node, (ast.For, ast.While)):
                self.assertEqual(node.orelse, [], (stem, node.lineno))
            if isinstance(node, ast.Assign):
                self.assertEqual(len(node.targets), 1, (stem, node.lineno))
            if isinstance(node, ast.Try):
                self.assertEqual(node.finalbody, [], (stem, node.lineno))

    def test_names(self):
        for stem, tree in parsed().items():
            drawn_names = [name.name for node in drawn(tree) for name in node.names]
            classes = [node.name for node in tree.body if isinstance(node, ast.ClassDef)]
            for node in ast.walk(tree):
                if isinstance(node, ast.Name):
                    self.assertFalse(node.id.startswith("_"), (stem, node.id))
                    if isinstance(node.ctx, ast.Load) and hasattr(builtins, node.id):
                        self.assertIn(node.id, PYTHON_NAMES, stem)
                given = node.arg if isinstance(node, ast.arg) else None
                if isinstance(node, ast.Name) and isinstance(node.ctx, ast.Store):
                    given = node.id
                self.assertNotIn(given, drawn_names + classes + dir(builtins), stem)

    def test_methods_and_values(self):
        methods, values = set(), set()
        for stem, node in walked():
            if isinstance(node, ast.ClassDef):
                methods.update(part.name for part in node.body if isinstance(part, ast.FunctionDef))
            if isinstance(node, ast.Attribute) and isinstance(node.ctx, ast.Store):
                values.add(node.attr)
        self.assertEqual(sorted(methods & values), [])
        for stem, node in walked():
            if isinstance(node, ast.Attribute):
                self.assertIn(node.attr, methods | values | set(METHODS) | set(DOUBLE), (stem, node.lineno))
        self.assertEqual([name for name in sorted(methods) if name.startswith("_") and name not in DOUBLE], [])

    def test_values_are_given_through_a_local_name(self):
        for stem, node in walked():
            if isinstance(node, ast.Attribute) and isinstance(node.ctx, ast.Store):
                self.assertIsInstance(node.value, ast.Name, (stem, node.lineno))

    def test_methods_and_values_bear_no_name_of_pythons_own_values(self):
        own = {name for value in ("", 0, [], {}, set(), b"", ()) for name in dir(value)}
        for stem, node in walked():
            if isinstance(node, ast.ClassDef):
                for part in node.body:
                    if isinstance(part, ast.FunctionDef) and part.name not in DOUBLE:
                        self.assertNotIn(part.name, own - set(METHODS) - {"add", "discard"}, stem)
            if isinstance(node, ast.Attribute) and isinstance(node.ctx, ast.Store):
                self.assertNotIn(node.attr, own, (stem, node.lineno))

    def test_walked_at_once_and_sets(self):
        for stem, tree in parsed().items():
            above = {part: node for node in ast.walk(tree) for part in ast.iter_child_nodes(node)}
            for node in ast.walk(tree):
                if not isinstance(node, ast.Call):
                    continue
                around = above[node]
                name = node.func.id if isinstance(node.func, ast.Name) else node.func.attr
                taker = around.func.id if isinstance(around, ast.Call) and isinstance(around.func, ast.Name) else None
                if name in ("zip", "enumerate", "reversed", "range", "items", "keys", "values"):
                    walks = isinstance(around, (ast.For, ast.comprehension)) and around.iter is node
                    takes = taker in ("list", "tuple", "dict", "sorted", "sum", "any", "all", "enumerate", "zip", "min", "max")
                    self.assertTrue(walks or takes, (stem, node.lineno))
                if name in ("set", "frozenset"):
                    self.assertTrue(taker in ("len", "sorted") or isinstance(around, (ast.Compare, ast.BinOp)), (stem, node.lineno))

    def test_numbers_texts_and_is(self):
        for stem, node in walked():
            where = (stem, getattr(node, "lineno", None))
            if isinstance(node, ast.BinOp) and isinstance(node.op, ast.Pow):
                self.assertIsInstance(node.right, ast.Constant, where)
                self.assertIn(node.right.value, range(65), where)
            if isinstance(node, ast.Constant):
                self.assertTrue(node.value is None or isinstance(node.value, (int, str)), where)
                self.assertNotIn("%", str(node.value), where)
            if isinstance(node, ast.Compare) and isinstance(node.ops[0], (ast.Is, ast.IsNot)):
                self.assertIsInstance(node.comparators[0], ast.Constant, where)


if __name__ == "__main__":
    unittest.main()
