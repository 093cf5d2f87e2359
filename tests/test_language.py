"""Those rules of the Python subset (LANGUAGE.md) that can be read off each file of the package alone."""

import ast
import builtins
import pathlib
import re
import unittest

PACKAGE = pathlib.Path(__file__).resolve().parent.parent / "everyfloor"
LIBRARY = {
    "math": {"gcd", "lcm", "isqrt", "comb", "perm", "factorial"},
    "itertools": {"product", "combinations", "permutations", "chain", "accumulate", "pairwise", "islice",
                  "zip_longest"},
    "heapq": {"heappush", "heappop", "heapify", "heapreplace", "heappushpop"},
    "collections": {"defaultdict", "deque"},
}
BUILTINS = set("""len range enumerate zip min max sum abs sorted reversed int str bool bytes list tuple dict set
    frozenset isinstance ord repr any all divmod pow getattr hasattr setattr iter next map property classmethod
    staticmethod super Exception ValueError TypeError KeyError IndexError LookupError ZeroDivisionError
    ArithmeticError OverflowError RuntimeError NotImplementedError AttributeError StopIteration
    NotImplemented""".split())
METHODS = set("""init eq repr str len enter exit call iter lt le gt ge ne add sub mul floordiv mod pow and or xor
    lshift rshift radd rsub rmul rfloordiv rmod rand ror rxor rlshift rrshift neg pos invert abs bool contains
    getitem setitem""".split())
NEVER = set("""register mro elements open input law version_info with_traceback add_note type typing enum Enum
    dataclass overload contextmanager namedtuple eval exec globals locals vars dir id compile print hash""".split())
BARRED = (ast.Div, ast.Set, ast.GeneratorExp, ast.Global, ast.AsyncFunctionDef, ast.AsyncFor, ast.AsyncWith,
          ast.Await, ast.MatMult)


def files():
    return sorted(PACKAGE.rglob("*.py"))


def is_docstring(node, parents):
    return isinstance(parents.get(node), ast.Expr)


def bound_names(function):
    """The parameters and local variables of a function."""
    names = {argument.arg for argument in ast.walk(function.args) if isinstance(argument, ast.arg)}
    return names | {node.id for node in ast.walk(function)
                    if isinstance(node, ast.Name) and not isinstance(node.ctx, ast.Load)}


class TestLanguage(unittest.TestCase):

    def setUp(self):
        self.trees = {path: ast.parse(path.read_text()) for path in files()}
        self.assertGreater(len(self.trees), 4)

    def nodes(self, *kinds):
        """(where, node) for each node of the kinds."""
        for path, tree in self.trees.items():
            for node in ast.walk(tree):
                if isinstance(node, kinds):
                    yield f"{path.name}:{getattr(node, 'lineno', 0)}", node

    def test_files(self):
        for path in PACKAGE.rglob("*"):
            if "__pycache__" not in path.parts and path.is_file():
                self.assertRegex(path.name, r"^([a-z][a-z0-9_]*|__init__|__main__)\.py$")

    def test_sizes_and_characters(self):
        for path in files():
            text = path.read_text(encoding="utf-8")
            self.assertLessEqual(len(text.splitlines()), 399, path.name)
            self.assertRegex(text, r"\A[ -~\n]*\Z", path.name)
            for number, line in enumerate(text.split("\n"), start=1):
                self.assertLessEqual(len(line), 120, f"{path.name}:{number}")
        for where, node in self.nodes(ast.FunctionDef):
            self.assertLessEqual(node.end_lineno - node.lineno + 1, 40, where)

    def test_imports(self):
        for where, node in self.nodes(ast.Import, ast.ImportFrom):
            self.assertIsInstance(node, ast.ImportFrom, where)
            self.assertEqual(node.level, 0, where)
            for name in node.names:
                self.assertIsNone(name.asname, where)
                if not node.module.startswith("everyfloor."):
                    self.assertIn(name.name, LIBRARY.get(node.module, ()), where)

    def test_module_level(self):
        for path, tree in self.trees.items():
            names = []
            for node in tree.body:
                self.assertIsInstance(node, (ast.Expr, ast.ImportFrom, ast.FunctionDef, ast.ClassDef, ast.Assign),
                                      f"{path.name}:{node.lineno}")
                if isinstance(node, ast.ImportFrom):
                    names.extend(name.name for name in node.names)
                elif isinstance(node, ast.Assign):
                    names.extend(target.id for target in node.targets)
                elif not isinstance(node, ast.Expr):
                    names.append(node.name)
            self.assertEqual(len(names), len(set(names)), path.name)
            for function in ast.walk(tree):
                if isinstance(function, ast.FunctionDef):
                    self.assertFalse(bound_names(function) & set(names), f"{path.name}:{function.lineno}")

    def test_nothing_that_is_barred(self):
        for where, node in self.nodes(*BARRED):
            self.fail(f"{where}: {type(node).__name__}")
        for where, node in self.nodes(ast.Constant):
            self.assertNotIsInstance(node.value, (float, complex), where)

    def test_decorators_and_double_underscores(self):
        for where, node in self.nodes(ast.FunctionDef, ast.ClassDef):
            for decorator in node.decorator_list:
                self.assertRegex(ast.unparse(decorator), r"^(property|classmethod|staticmethod|\w+\.setter)$", where)
            if node.name.startswith("__"):
                self.assertIn(node.name.strip("_"), METHODS, where)

    def test_names(self):
        # Sessions leave the name _ among the builtins.
        known = set(dir(builtins)) - {"_"}
        for where, node in self.nodes(ast.Name):
            self.assertNotIn(node.id, NEVER, where)
            if isinstance(node.ctx, ast.Load):
                self.assertFalse(node.id in known and node.id not in BUILTINS, f"{where} {node.id}")
            else:
                self.assertNotIn(node.id, known, where)
        for where, node in self.nodes(ast.arg):
            self.assertNotIn(node.arg, known | NEVER, where)
        for where, node in self.nodes(ast.Attribute):
            self.assertNotIn(node.attr, {"register", "mro", "elements", "open", "input", "law", "args"}, where)

    def test_in_place_steps_are_by_literals(self):
        # A class with __radd__ lets += stand only where both sides surely are of one kind.
        for where, node in self.nodes(ast.AugAssign):
            self.assertIsInstance(node.value, ast.Constant, where)
            self.assertIsInstance(node.target, ast.Name, where)

    def test_exponents_are_literals_or_surely_small_integers(self):
        for where, node in self.nodes(ast.BinOp):
            if isinstance(node.op, ast.Pow):
                self.assertRegex(ast.unparse(node.right), r"^(\d|int\(\w+\) % \d)$|^64$", where)

    def test_greatest_and_least_of_plain_numbers(self):
        # Where orders its objects without a key, so that max and min stand beside a length or a literal.
        for where, node in self.nodes(ast.Call):
            if isinstance(node.func, ast.Name) and node.func.id in ("min", "max", "sorted"):
                plain = [argument for argument in node.args
                         if isinstance(argument, ast.Constant) or re.match(r"\[?(len|int|str)\(", ast.unparse(argument))]
                self.assertTrue(plain, where)

    def test_methods_and_attributes_have_different_names(self):
        methods = {node.name for _, kind in self.nodes(ast.ClassDef) for node in kind.body
                   if isinstance(node, ast.FunctionDef)}
        for where, node in self.nodes(ast.Attribute):
            if not isinstance(node.ctx, ast.Load):
                self.assertNotIn(node.attr, methods, where)

    def test_strings(self):
        for path, tree in self.trees.items():
            parents = {child: node for node in ast.walk(tree) for child in ast.iter_child_nodes(node)}
            for node in ast.walk(tree):
                if isinstance(node, ast.Constant) and isinstance(node.value, str) and not is_docstring(node, parents):
                    self.assertNotIn("%", node.value, f"{path.name}:{node.lineno}")


if __name__ == "__main__":
    unittest.main()
