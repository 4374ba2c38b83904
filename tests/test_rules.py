"""The form of the package's files: what ../shared/LANGUAGE.md says that can be counted here."""

import ast
import builtins
import pathlib
import unittest

PACKAGE = pathlib.Path(__file__).resolve().parent.parent / "gatequarters"
LIBRARY = {"heapq", "math", "itertools", "collections"}
BUILTINS = set(dir(builtins))
WORDS_BARRED = {"type", "typing", "enum", "register", "elements", "open", "input", "law", "mro"}


ALLOWED = set(
    "len range enumerate zip min max sum abs sorted reversed int str bool list tuple dict set isinstance any all "
    "ValueError".split())
NOT_USED = (ast.Global, ast.Nonlocal, ast.Yield, ast.Await, ast.AsyncFunctionDef, ast.GeneratorExp, ast.Div, ast.Assert)
VIEWS = {"range", "zip", "enumerate", "reversed", "items", "keys", "values"}
AT_ONCE = {"list", "tuple", "dict", "sorted", "sum", "any", "all", "enumerate", "zip", "min", "max"}


def name_called(call):
    """Return the name of what is called, None if it has none."""
    return getattr(call.func, "id", getattr(call.func, "attr", None))


def is_iterated(parent, node):
    """Return whether a view is iterated where it stands."""
    if isinstance(parent, (ast.For, ast.comprehension)):
        return parent.iter is node
    return isinstance(parent, ast.Call) and name_called(parent) in AT_ONCE and parent.args[0] is node


def files():
    """Return the package's files with their texts."""
    return [(path, path.read_text(encoding="utf-8")) for path in sorted(PACKAGE.rglob("*.py"))]


class Rules(unittest.TestCase):
    def test_sizes_and_signs(self):
        for path, text in files():
            self.assertLessEqual(len(text.splitlines()), 399, path)
            self.assertTrue(text.endswith("\n") and not text.endswith("\n\n"), path)
            for number, line in enumerate(text.splitlines(), 1):
                self.assertLessEqual(len(line), 120, (path, number))
                self.assertTrue(all(" " <= sign <= "~" for sign in line), (path, number))
                self.assertEqual(line, line.rstrip(), (path, number))

    def test_functions_are_small_and_told(self):
        for path, text in files():
            self.assertTrue(ast.get_docstring(ast.parse(text)), path)
            for node in ast.walk(ast.parse(text)):
                if isinstance(node, ast.FunctionDef):
                    self.assertLessEqual(node.end_lineno - node.lineno + 1, 40, (path, node.name))
                    self.assertNotIn(node.name, BUILTINS, (path, node.name))
                if isinstance(node, ast.ClassDef):
                    self.assertTrue(ast.get_docstring(node), (path, node.name))

    def test_imports_stand_at_the_top_and_name_the_defining_file(self):
        for path, text in files():
            tree = ast.parse(text)
            self.assertFalse(any(isinstance(node, ast.Import) for node in ast.walk(tree)), path)
            for node in ast.walk(tree):
                if isinstance(node, ast.ImportFrom):
                    self.assertIn(node, tree.body, path)
                    self.assertEqual(node.level, 0, path)
                    self.assert_names_the_file(path, node)

    def assert_names_the_file(self, path, node):
        if node.module in LIBRARY:
            return
        self.assertTrue(node.module.startswith("gatequarters."), path)
        target = PACKAGE.parent.joinpath(*node.module.split(".")).with_suffix(".py")
        defined = [part.name for part in ast.parse(target.read_text()).body
                   if isinstance(part, (ast.FunctionDef, ast.ClassDef))]
        for alias in node.names:
            self.assertIsNone(alias.asname, path)
            self.assertIn(alias.name, defined, path)

    def test_no_local_name_is_that_of_a_builtin_an_import_or_a_class(self):
        for path, text in files():
            tree = ast.parse(text)
            taken = set(BUILTINS) | WORDS_BARRED
            for part in tree.body:
                if isinstance(part, ast.ImportFrom):
                    taken |= {alias.name for alias in part.names}
                if isinstance(part, ast.ClassDef):
                    taken.add(part.name)
            for node in ast.walk(tree):
                if isinstance(node, ast.arg):
                    self.assertNotIn(node.arg, taken, path)
                if isinstance(node, ast.Name) and isinstance(node.ctx, ast.Store):
                    self.assertNotIn(node.id, taken, path)

    def test_no_two_files_import_from_each_other(self):
        ahead = {}
        for path, text in files():
            modules = [node.module for node in ast.parse(text).body if isinstance(node, ast.ImportFrom)]
            ahead["gatequarters." + path.stem] = [name for name in modules if name.startswith("gatequarters.")]
        while ahead:
            free = [name for name in ahead if not any(other in ahead for other in ahead[name])]
            self.assertTrue(free, ahead)
            ahead = {name: ahead[name] for name in ahead if name not in free}

    def test_only_the_builtins_of_the_rules(self):
        for path, text in files():
            for node in ast.walk(ast.parse(text)):
                if isinstance(node, ast.Name) and node.id in BUILTINS:
                    self.assertIn(node.id, ALLOWED, (path, node.lineno))
                self.assertNotIsInstance(node, NOT_USED, path)

    def test_views_and_ranges_are_iterated_at_once(self):
        for path, text in files():
            for parent in ast.walk(ast.parse(text)):
                for node in ast.iter_child_nodes(parent):
                    if isinstance(node, ast.Call) and name_called(node) in VIEWS:
                        self.assertTrue(is_iterated(parent, node), (path, node.lineno))

    def test_sets_are_sorted_measured_or_compared(self):
        for path, text in files():
            for parent in ast.walk(ast.parse(text)):
                for node in ast.iter_child_nodes(parent):
                    is_set = isinstance(node, (ast.Set, ast.SetComp))
                    if is_set or (isinstance(node, ast.Call) and name_called(node) in ("set", "frozenset")):
                        at_once = isinstance(parent, ast.Call) and name_called(parent) in ("sorted", "len")
                        self.assertTrue(at_once or isinstance(parent, (ast.Compare, ast.BinOp)), (path, node.lineno))

    def test_identity_is_asked_of_none_and_truths(self):
        for path, text in files():
            for node in ast.walk(ast.parse(text)):
                if isinstance(node, ast.Compare):
                    for sign, other in zip(node.ops, node.comparators):
                        if isinstance(sign, (ast.Is, ast.IsNot)):
                            self.assertIsInstance(other, ast.Constant, (path, node.lineno))
                            self.assertIn(other.value, (None, True, False), (path, node.lineno))

    def test_truths_and_sums_are_asked_of_lists(self):
        # L7: beside classes with an ==, these take no generator expressions.
        for path, text in files():
            for node in ast.walk(ast.parse(text)):
                if isinstance(node, ast.Call) and isinstance(node.func, ast.Name):
                    if node.func.id in ("any", "all", "min", "max", "sum", "sorted"):
                        self.assertFalse(any(isinstance(part, ast.GeneratorExp) for part in node.args), path)


if __name__ == "__main__":
    unittest.main()
