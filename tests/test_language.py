"""Those rules of the language of the program that are easily asked of its files."""

import ast
import builtins
import re
import unittest
from pathlib import Path

PACKAGE = Path(__file__).resolve().parent.parent / "rimorders"

LIBRARY = {
    "heapq": {"heappush", "heappop", "heapify", "heapreplace", "heappushpop"},
    "math": {"gcd", "lcm", "isqrt", "comb", "perm", "factorial"},
    "itertools": {"product", "combinations", "permutations"},
}
ALLOWED_BUILTINS = set(
    "len range enumerate zip min max sum abs sorted reversed int str bool bytes list tuple dict set isinstance ord "
    "repr any all divmod map iter next property staticmethod classmethod super Exception ValueError TypeError KeyError "
    "IndexError LookupError ZeroDivisionError ArithmeticError OverflowError RuntimeError NotImplementedError "
    "AttributeError StopIteration NotImplemented object".split()
)
TAKE_LISTS = "any", "all", "min", "max", "sum", "sorted"
VIEWS = "range", "zip", "enumerate", "reversed"
# What may take one of these; it goes over it at once.
TAKE_VIEWS = "list", "tuple", "dict", "sorted", "sum", "min", "max", "any", "all", "enumerate", "zip", "len"
OWN_METHODS = (
    "__init__", "__eq__", "__repr__", "__str__", "__len__", "__enter__", "__exit__", "__call__", "__iter__", "__contains__",
)
# As lots have an __eq__, an attribute alone is not asked, nor compared with a literal.
ASKED_IN_EXIT = r"\A(kind is (not )?None|self(\.\w+)+ is None)\Z"
ASSIGNED_IN_EXIT = r"self(\.\w+)+ = self(\.\w+)+"
BARRED_NODES = (ast.Global, ast.AsyncFunctionDef, ast.Await, ast.Div, ast.MatMult, ast.NamedExpr)


def files():
    return sorted(PACKAGE.rglob("*.py"))


def trees():
    return [(path, ast.parse(path.read_text(encoding="ascii"))) for path in files()]


def exits():
    return [(path, node) for path, tree in trees() for node in ast.walk(tree)
            if isinstance(node, ast.FunctionDef) and node.name == "__exit__"]


def rows_in(rows):
    """These statements and those within their ifs."""
    found = []
    for row in rows:
        found.append(row)
        if isinstance(row, ast.If):
            found += rows_in(row.body) + rows_in(row.orelse)
    return found


def is_row_of_exit(row):
    """Whether it is one of the statements that the exits of this package need; L6 With allows a few more."""
    if isinstance(row, ast.Assign):
        return re.fullmatch(ASSIGNED_IN_EXIT, ast.unparse(row)) is not None
    return isinstance(row, ast.If)


def asked_in(test):
    """What stands between and, or and not."""
    if isinstance(test, ast.BoolOp):
        return [part for value in test.values for part in asked_in(value)]
    if isinstance(test, ast.UnaryOp) and isinstance(test.op, ast.Not):
        return asked_in(test.operand)
    return [test]


class Files(unittest.TestCase):

    def test_nothing_else_in_the_folder(self):
        found = [path for path in PACKAGE.rglob("*") if "__pycache__" not in path.parts]
        self.assertEqual([path.name for path in found if path.suffix != ".py"], [])

    def test_characters_and_sizes(self):
        for path in files():
            text = path.read_text(encoding="ascii")
            with self.subTest(path.name):
                self.assertEqual([sign for sign in text if sign != "\n" and not " " <= sign <= "~"], [])
                self.assertLessEqual(len(text.splitlines()), 399)
                self.assertLessEqual(max([len(line) for line in text.splitlines()]), 120)

    def test_sizes_of_functions(self):
        for path, tree in trees():
            for node in ast.walk(tree):
                if isinstance(node, ast.FunctionDef):
                    with self.subTest(path=path.name, name=node.name):
                        self.assertLessEqual(node.end_lineno - node.lineno + 1, 40)


class Code(unittest.TestCase):

    def test_imports(self):
        needed = {}
        for path, tree in trees():
            needed[path.stem] = []
            for node in ast.walk(tree):
                self.assertNotIsInstance(node, ast.Import, path.name)
                if not isinstance(node, ast.ImportFrom):
                    continue
                self.assertIn(node, tree.body, path.name)
                self.assertEqual(node.level, 0, path.name)
                names = {name.name for name in node.names}
                if node.module in LIBRARY:
                    self.assertLessEqual(names, LIBRARY[node.module], path.name)
                else:
                    self.assertTrue(node.module.startswith("rimorders."), path.name)
                    needed[path.stem].append(node.module.partition(".")[2])
        while needed:
            free = [name for name in needed if not any(other in needed for other in needed[name])]
            self.assertNotEqual(free, [], "files import from each other")
            for name in free:
                del needed[name]

    def test_builtins(self):
        for path, tree in trees():
            for node in ast.walk(tree):
                name = node.id if isinstance(node, ast.Name) else node.arg if isinstance(node, ast.arg) else None
                if name is not None and hasattr(builtins, name):
                    with self.subTest(path=path.name, line=node.lineno):
                        self.assertIn(name, ALLOWED_BUILTINS)
                        self.assertIsInstance(getattr(node, "ctx", None), ast.Load)

    def test_lists_where_objects_compare(self):
        # As lots have an __eq__, these take no generator expressions.
        for path, tree in trees():
            for node in ast.walk(tree):
                if isinstance(node, ast.Call) and getattr(node.func, "id", None) in TAKE_LISTS:
                    with self.subTest(path=path.name, line=node.lineno):
                        self.assertEqual([part for part in node.args if isinstance(part, ast.GeneratorExp)], [])

    def test_views_are_gone_over_at_once(self):
        for path, tree in trees():
            allowed = set()
            for node in ast.walk(tree):
                if isinstance(node, (ast.For, ast.comprehension)):
                    allowed.add(node.iter)
                elif isinstance(node, ast.Call) and getattr(node.func, "id", None) in (*TAKE_VIEWS, *VIEWS, "combinations"):
                    allowed.update(node.args)
                elif isinstance(node, ast.Compare):
                    allowed.update(node.comparators)
            for node in ast.walk(tree):
                if isinstance(node, ast.Call) and getattr(node.func, "id", None) in VIEWS:
                    with self.subTest(path=path.name, line=node.lineno):
                        self.assertIn(node, allowed)

    def test_methods_with_underscores(self):
        for path, tree in trees():
            for node in ast.walk(tree):
                if isinstance(node, ast.FunctionDef) and node.name.startswith("__"):
                    with self.subTest(path=path.name, name=node.name):
                        self.assertIn(node.name, OWN_METHODS)

    def test_rows_of_exits(self):
        for path, exit_method in exits():
            with self.subTest(path.name):
                self.assertEqual([part.arg for part in exit_method.args.args], ["self", "kind", "value", "trace"])
                for row in rows_in(exit_method.body):
                    self.assertTrue(is_row_of_exit(row), ast.unparse(row))

    def test_what_exits_ask(self):
        for path, exit_method in exits():
            for row in rows_in(exit_method.body):
                if isinstance(row, ast.If):
                    for part in asked_in(row.test):
                        with self.subTest(path=path.name, line=part.lineno):
                            self.assertRegex(ast.unparse(part), ASKED_IN_EXIT)

    def test_functions_of_tables_are_named_first(self):
        for path, tree in trees():
            for node in ast.walk(tree):
                if isinstance(node, ast.Call):
                    with self.subTest(path=path.name, line=node.lineno):
                        self.assertNotIsInstance(node.func, (ast.Subscript, ast.Call, ast.IfExp))

    def test_powers_stars_and_tests_of_being(self):
        for path, tree in trees():
            for node in ast.walk(tree):
                with self.subTest(path=path.name, line=getattr(node, "lineno", 0)):
                    if isinstance(node, ast.BinOp) and isinstance(node.op, ast.Pow):
                        self.assertIsInstance(node.right, ast.Constant)
                        self.assertLessEqual(node.right.value, 64)
                    if isinstance(node, ast.Subscript):
                        self.assertEqual([part for part in ast.walk(node.slice) if isinstance(part, ast.Starred)], [])
                    if isinstance(node, ast.Compare) and isinstance(node.ops[0], (ast.Is, ast.IsNot)):
                        self.assertIsInstance(node.comparators[0], ast.Constant)

    def test_tables_hold_only_plain_values(self):
        for path, tree in trees():
            for node in tree.body:
                if isinstance(node, ast.Assign):
                    barred = (ast.Call, ast.Lambda, ast.ListComp, ast.DictComp, ast.GeneratorExp, ast.Set)
                    self.assertEqual([part for part in ast.walk(node) if isinstance(part, barred)], [], path.name)
                else:
                    self.assertIsInstance(node, (ast.Expr, ast.ImportFrom, ast.FunctionDef, ast.ClassDef), path.name)

    def test_statements_and_values(self):
        for path, tree in trees():
            for node in ast.walk(tree):
                with self.subTest(path=path.name, line=getattr(node, "lineno", 0)):
                    self.assertNotIsInstance(node, BARRED_NODES)
                    if isinstance(node, ast.Constant):
                        self.assertNotIsInstance(node.value, (float, complex))
                        if isinstance(node.value, str):
                            self.assertNotIn("%", node.value)


if __name__ == "__main__":
    unittest.main()
