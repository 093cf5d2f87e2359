"""LANGUAGE.md, L5 Operators and L28: what an operator or a property runs changes nothing that it did not create."""

import ast
import builtins
import pathlib
import unittest

PACKAGE = pathlib.Path(__file__).resolve().parent.parent / "everyfloor"
OPERATORS = {f"__{name}__" for name in """lt le gt ge ne add sub mul floordiv mod pow and or xor lshift rshift radd
    rsub rmul rfloordiv rmod rand ror rxor rlshift rrshift neg pos invert abs bool contains getitem eq repr str
    len""".split()}
CHANGES = {"append", "clear", "extend", "insert", "pop", "remove", "reverse", "setdefault", "update", "sort", "add",
           "discard", "popitem"}


def package_trees():
    return {path.name: ast.parse(path.read_text()) for path in sorted(PACKAGE.rglob("*.py"))}


def is_property(function):
    return "property" in [ast.unparse(decorator) for decorator in function.decorator_list]


def called_names(function):
    """The names of the functions, classes and methods that a function calls."""
    for node in ast.walk(function):
        if isinstance(node, ast.Call):
            yield node.func.id if isinstance(node.func, ast.Name) else node.func.attr


def is_created(value):
    """True if the value is a list, a dict or a set that the function makes anew."""
    if isinstance(value, (ast.List, ast.Dict, ast.ListComp, ast.DictComp, ast.SetComp)):
        return True
    if isinstance(value, ast.Subscript):
        return isinstance(value.slice, ast.Slice)
    return isinstance(value, ast.Call) and ast.unparse(value.func) in ("list", "dict", "set", "sorted")


def reached_functions(trees):
    """(place, function) for each function that an operator or a property is, calls, or calls through others."""
    functions, waiting = {}, []
    for file, tree in trees.items():
        for node in ast.walk(tree):
            if isinstance(node, ast.ClassDef):
                for method in [item for item in node.body if isinstance(item, ast.FunctionDef)]:
                    name = node.name if method.name == "__init__" else method.name
                    functions.setdefault(name, []).append((f"{file}:{method.lineno} {method.name}", method))
                    if method.name in OPERATORS or is_property(method):
                        waiting.append(name)
        for function in [item for item in tree.body if isinstance(item, ast.FunctionDef)]:
            functions.setdefault(function.name, []).append((f"{file}:{function.lineno} {function.name}", function))
    reached = {}
    while waiting:
        name = waiting.pop()
        if name in functions and name not in reached:
            reached[name] = functions[name]
            waiting.extend([called for _, function in functions[name] for called in called_names(function)])
    return [found for name in sorted(reached) for found in reached[name]]


class TestOperators(unittest.TestCase):

    def setUp(self):
        self.reached = reached_functions(package_trees())

    def test_operators_and_what_they_call_are_found(self):
        names = {function.name for _, function in self.reached}
        self.assertLessEqual({"__mul__", "row_product", "__or__", "__init__", "trimmed", "is_whole",
                              "__floordiv__", "__mod__", "row_divided", "signs_of_row", "least_form"}, names)
        self.assertNotIn("signs_of", names)

    def test_nothing_is_assigned_but_names(self):
        for place, function in self.reached:
            for node in ast.walk(function):
                if isinstance(node, (ast.Subscript, ast.Attribute)) and not isinstance(node.ctx, ast.Load):
                    self.assertTrue(function.name == "__init__" and ast.unparse(node.value) == "self", place)
                self.assertNotIsInstance(node, (ast.Global, ast.Nonlocal, ast.Delete, ast.Lambda), place)
                if isinstance(node, ast.AugAssign):
                    self.assertIsInstance(node.value, ast.Constant, place)

    def test_only_lists_of_its_own_are_changed(self):
        for place, function in self.reached:
            made = {}
            for node in ast.walk(function):
                if isinstance(node, ast.Assign):
                    for target in node.targets:
                        made.setdefault(ast.unparse(target), []).append(is_created(node.value))
            for node in ast.walk(function):
                if isinstance(node, ast.Call) and isinstance(node.func, ast.Attribute) and node.func.attr in CHANGES:
                    self.assertTrue(all(made.get(ast.unparse(node.func.value), [False])), place)

    def test_nothing_that_is_passed_or_held_is_called(self):
        known = set(dir(builtins))
        methods = set(dir(list)) | set(dir(dict)) | set(dir(str)) | {"bit_length"}
        for tree in package_trees().values():
            for node in tree.body:
                known |= {name.name for name in getattr(node, "names", ())} | {getattr(node, "name", None)}
                methods |= {item.name for item in getattr(node, "body", ()) if isinstance(item, ast.FunctionDef)}
        for place, function in self.reached:
            for node in ast.walk(function):
                if isinstance(node, ast.Call):
                    plain = isinstance(node.func, ast.Name)
                    self.assertIn(node.func.id if plain else node.func.attr, known if plain else methods, place)

    def test_no_method_that_is_called_has_the_name_of_an_attribute(self):
        # Read by itself, such a call may as well be one of what an object holds: an error holds an index.
        held = {node.attr for tree in package_trees().values() for node in ast.walk(tree)
                if isinstance(node, ast.Attribute) and isinstance(node.ctx, ast.Store)}
        self.assertLessEqual({"index", "row", "below"}, held)
        for place, function in self.reached:
            for node in ast.walk(function):
                if isinstance(node, ast.Call) and isinstance(node.func, ast.Attribute):
                    self.assertNotIn(node.func.attr, held, place)


if __name__ == "__main__":
    unittest.main()
