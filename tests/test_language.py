"""The package keeps to the small part of Python that it is written in."""

import ast
import builtins
import io
import re
import tokenize
import unittest
from pathlib import Path

PACKAGE = Path(__file__).resolve().parent.parent / "pinchworks"
FILES = sorted(PACKAGE.glob("*.py"))

BUILTINS = set("""
    len range enumerate zip min max sum abs sorted reversed int str bool bytes list tuple dict set frozenset isinstance
    ord repr any all divmod map iter next Exception ValueError TypeError KeyError IndexError LookupError
    ZeroDivisionError ArithmeticError OverflowError RuntimeError NotImplementedError AttributeError StopIteration
    NotImplemented super property staticmethod classmethod
""".split())

METHODS = set("""
    append clear copy count endswith extend find get index insert isalnum isalpha isdigit islower isspace isupper items
    join keys ljust lower lstrip partition pop remove replace reverse rfind rjust rpartition rsplit rstrip setdefault
    split splitlines startswith strip update upper values zfill bit_length add discard sort
""".split())

LIBRARY = {
    "heapq": {"heappush", "heappop", "heapify", "heapreplace", "heappushpop"},
    "math": {"gcd", "lcm", "isqrt", "comb", "perm", "factorial"},
    "itertools": {"product", "combinations", "permutations"},
}

BARRED_NAMES = set("""
    register mro elements open input law version_info with_traceback add_note attrgetter breakpoint builtins compile
    copyright credits delattr dir eval exec exit gc getattr globals hasattr help id importlib license locals
    methodcaller os quit setattr type vars sys __name__
""".split())

BARRED_WORDS = re.compile(
    r"\b(type|typing|typing_extensions|enum|Enum|IntEnum|StrEnum|Flag|IntFlag|Generic|Protocol|ABC|ABCMeta|namedtuple"
    r"|NamedTuple|TypedDict|TYPE_CHECKING|abstractmethod|_wall|_WallAttr|__class__)\b|dataclass|overload|contextmanager"
)

STATEMENTS = (
    ast.Assign, ast.AugAssign, ast.If, ast.While, ast.For, ast.Return, ast.Break, ast.Continue, ast.Pass, ast.Raise,
    ast.Expr, ast.FunctionDef, ast.ClassDef, ast.ImportFrom, ast.Try, ast.Delete,
)

EXPRESSIONS = (
    ast.BoolOp, ast.BinOp, ast.UnaryOp, ast.Lambda, ast.IfExp, ast.Dict, ast.ListComp, ast.DictComp, ast.Compare,
    ast.Call, ast.JoinedStr, ast.FormattedValue, ast.Constant, ast.Attribute, ast.Subscript, ast.Starred, ast.Name,
    ast.List, ast.Tuple, ast.Slice,
)


def trees():
    return [(path, ast.parse(path.read_text(encoding="utf-8"))) for path in FILES]


def nodes():
    return [(path, node) for path, tree in trees() for node in ast.walk(tree)]


def bound_names(tree):
    """Return all names that a file binds."""
    found = set()
    for node in ast.walk(tree):
        if isinstance(node, ast.Name) and not isinstance(node.ctx, ast.Load):
            found.add(node.id)
        elif isinstance(node, (ast.FunctionDef, ast.ClassDef)):
            found.add(node.name)
        elif isinstance(node, ast.arg):
            found.add(node.arg)
        elif isinstance(node, ast.alias):
            found.add(node.name)
    return found


class TestFiles(unittest.TestCase):
    def test_folder(self):
        self.assertTrue((PACKAGE / "__init__.py").exists())
        for path in PACKAGE.iterdir():
            if path.name != "__pycache__":
                self.assertRegex(path.name, r"^[a-z][a-z0-9_]*\.py$|^__init__\.py$")

    def test_characters_and_sizes(self):
        for path in FILES:
            text = path.read_text(encoding="utf-8")
            self.assertRegex(text, r"\A[ -~\n]*\Z", path)
            lines = text.split("\n")
            self.assertLessEqual(len(lines), 400, path)
            self.assertLessEqual(max(map(len, lines)), 120, path)
            self.assertFalse([line for line in lines if line != line.rstrip()], path)

    def test_function_sizes(self):
        for path, node in nodes():
            if isinstance(node, ast.FunctionDef):
                self.assertLessEqual(node.end_lineno - node.lineno + 1, 40, (path, node.name))


class TestModules(unittest.TestCase):
    def test_imports(self):
        for path, tree in trees():
            seen_other = False
            for node in tree.body:
                if not isinstance(node, ast.ImportFrom):
                    seen_other = seen_other or not isinstance(node, ast.Expr)
                    continue
                self.assertFalse(seen_other, path)
                self.assertEqual(node.level, 0, path)
                names = {alias.name for alias in node.names}
                self.assertFalse([alias for alias in node.names if alias.asname], path)
                if node.module in LIBRARY:
                    self.assertLessEqual(names, LIBRARY[node.module], path)
                    continue
                self.assertRegex(node.module, r"^pinchworks\.[a-z_]+$", path)
                source = ast.parse((PACKAGE / (node.module.split(".")[1] + ".py")).read_text())
                defined = {one.name for one in source.body if isinstance(one, (ast.FunctionDef, ast.ClassDef))}
                defined |= {one.targets[0].id for one in source.body if isinstance(one, ast.Assign)}
                self.assertLessEqual(names, defined, path)

    def test_no_circles(self):
        needs = {}
        for path, tree in trees():
            modules = [node.module for node in tree.body if isinstance(node, ast.ImportFrom)]
            needs[f"pinchworks.{path.stem}"] = {name for name in modules if name.startswith("pinchworks.")}
        while needs:
            free = [name for name, others in needs.items() if not others & set(needs)]
            self.assertTrue(free, needs)
            needs = {name: others for name, others in needs.items() if name not in free}

    def test_module_level(self):
        for path, tree in trees():
            names = []
            for at, node in enumerate(tree.body):
                if isinstance(node, (ast.FunctionDef, ast.ClassDef)):
                    names.append(node.name)
                elif isinstance(node, ast.ImportFrom):
                    names += [alias.name for alias in node.names]
                elif isinstance(node, ast.Assign):
                    self.assertEqual([type(target) for target in node.targets], [ast.Name], path)
                    ast.literal_eval(node.value)
                    names.append(node.targets[0].id)
                else:
                    self.assertIsInstance(node, ast.Expr, path)
                    self.assertEqual(at, 0, path)
                    self.assertIsInstance(node.value.value, str, path)
            self.assertEqual(len(names), len(set(names)), path)

    def test_no_name_means_two_things(self):
        for path, tree in trees():
            taken = {alias.name for node in tree.body if isinstance(node, ast.ImportFrom) for alias in node.names}
            taken |= {node.name for node in tree.body if isinstance(node, ast.ClassDef)}
            for node in ast.walk(tree):
                if isinstance(node, ast.Name) and not isinstance(node.ctx, ast.Load):
                    self.assertNotIn(node.id, taken, (path, node.lineno))
                if isinstance(node, ast.arg):
                    self.assertNotIn(node.arg, taken, (path, node.lineno))


class TestCode(unittest.TestCase):
    def test_statements_and_expressions(self):
        for path, node in nodes():
            where = (path.name, getattr(node, "lineno", 0), ast.dump(node)[:80])
            if isinstance(node, ast.stmt):
                self.assertIsInstance(node, STATEMENTS, where)
            elif isinstance(node, ast.expr):
                self.assertIsInstance(node, EXPRESSIONS, where)
            if isinstance(node, (ast.FunctionDef, ast.ClassDef)):
                self.assertEqual(node.decorator_list, [], where)
            if isinstance(node, ast.Try):
                self.assertEqual(node.finalbody, [], where)
                self.assertEqual([handler.type.id for handler in node.handlers], ["HeatError"], where)
                self.assertEqual([handler.name for handler in node.handlers], [None], where)
            if isinstance(node, ast.BinOp):
                self.assertNotIsInstance(node.op, (ast.Div, ast.MatMult, ast.Pow), where)
            if isinstance(node, ast.Constant):
                self.assertIn(type(node.value), (int, str, bool, type(None)), where)
            if isinstance(node, ast.Compare):
                for op, right in zip(node.ops, node.comparators):
                    if isinstance(op, (ast.Is, ast.IsNot)):
                        self.assertIn(getattr(right, "value", 0), (None, True, False), where)
                        self.assertIsInstance(right, ast.Constant, where)

    def test_names(self):
        for path, tree in trees():
            for name in bound_names(tree):
                self.assertNotIn(name, dir(builtins), path)
                self.assertNotIn(name, BARRED_NAMES, path)
                if name not in ("_", "__init__"):
                    self.assertRegex(name, r"^[A-Za-z][A-Za-z0-9_]*$", path)
            bound = bound_names(tree)
            for node in ast.walk(tree):
                if isinstance(node, ast.Name) and node.id not in bound:
                    self.assertIn(node.id, BUILTINS, (path, node.lineno))
                if isinstance(node, ast.Name) and node.id == "_":
                    self.assertNotIsInstance(node.ctx, ast.Load, (path, node.lineno))

    def test_methods(self):
        own = {node.name for _, node in nodes() if isinstance(node, ast.FunctionDef)}
        for path, node in nodes():
            if isinstance(node, ast.Call) and isinstance(node.func, ast.Attribute):
                self.assertIn(node.func.attr, METHODS | own, (path, node.lineno))
                if node.func.attr not in own:
                    self.assertEqual(node.keywords, [], (path, node.lineno))

    def test_sets(self):
        for path, tree in trees():
            parents = {child: node for node in ast.walk(tree) for child in ast.iter_child_nodes(node)}
            for node in ast.walk(tree):
                if not (isinstance(node, ast.Call) and getattr(node.func, "id", "") == "set"):
                    continue
                above = parents[node]
                if isinstance(above, ast.Assign):
                    continue
                self.assertIsInstance(above, ast.Call, (path, node.lineno))
                self.assertIn(above.func.id, ("sorted", "len"), (path, node.lineno))
                self.assertEqual(above.keywords, [], (path, node.lineno))

    def test_iterated_at_once(self):
        fine = ("list", "tuple", "dict", "sorted", "sum", "any", "all", "enumerate", "zip", "min", "max")
        for path, tree in trees():
            parents = {child: node for node in ast.walk(tree) for child in ast.iter_child_nodes(node)}
            for node in ast.walk(tree):
                name = ""
                if isinstance(node, ast.Call):
                    name = getattr(node.func, "id", getattr(node.func, "attr", ""))
                if name in ("zip", "enumerate", "reversed", "range", "items", "keys", "values"):
                    above = parents[node]
                    is_loop = isinstance(above, (ast.For, ast.comprehension)) and above.iter is node
                    is_call = isinstance(above, ast.Call) and getattr(above.func, "id", "") in fine
                    self.assertTrue(is_loop or is_call, (path, node.lineno))

    def test_words(self):
        for path in FILES:
            text = path.read_text(encoding="utf-8")
            for token in tokenize.generate_tokens(io.StringIO(text).readline):
                if token.type in (tokenize.NAME, tokenize.STRING):
                    self.assertNotRegex(token.string, BARRED_WORDS, (path, token.start))
                if token.type == tokenize.STRING:
                    self.assertNotIn("%", token.string, (path, token.start))
                    self.assertNotRegex(token.string, r"\\[^nt\\'\"]", (path, token.start))


if __name__ == "__main__":
    unittest.main()
