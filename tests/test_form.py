"""The form of the package's files, as far as a short test can see it: files, sizes, signs, imports, words."""

import ast
import builtins
import os
import unittest

FOLDER = os.path.join(os.path.dirname(os.path.dirname(os.path.abspath(__file__))), "loopwords")

BUILTINS = {
    "len", "range", "enumerate", "zip", "min", "max", "sum", "abs", "sorted", "reversed", "int", "str", "bool",
    "list", "tuple", "dict", "set", "isinstance", "ord", "repr", "any", "all", "divmod", "type", "property",
    "ValueError", "KeyError",
}
LIBRARY = {
    "heapq": {"heappush", "heappop", "heapify", "heapreplace", "heappushpop"},
    "math": {"gcd", "lcm", "isqrt", "comb", "perm", "factorial"},
    "itertools": {
        "product", "combinations", "permutations", "chain", "accumulate", "pairwise", "islice", "zip_longest"
    },
    "collections": {"defaultdict", "deque"},
}


def files():
    return sorted(name for name in os.listdir(FOLDER) if name != "__pycache__")


def text_of(name):
    with open(os.path.join(FOLDER, name), encoding="utf-8") as file:
        return file.read()


def trees():
    return [(name, ast.parse(text_of(name))) for name in files()]


def functions(tree):
    return [node for node in ast.walk(tree) if isinstance(node, ast.FunctionDef)]


class TestForm(unittest.TestCase):
    def test_only_plain_python_files(self):
        self.assertIn("__init__.py", files())
        for name in files():
            self.assertRegex(name, r"^[a-z0-9_]+\.py$")

    def test_sizes(self):
        for name, tree in trees():
            lines = text_of(name).split("\n")
            self.assertLessEqual(len(lines), 400, name)
            for line in lines:
                self.assertLessEqual(len(line), 120, f"{name}: {line}")
            for function in functions(tree):
                self.assertLessEqual(function.end_lineno - function.lineno + 1, 40, f"{name}: {function.name}")

    def test_signs(self):
        for name in files():
            for sign in text_of(name):
                self.assertTrue(sign == "\n" or " " <= sign <= "~", f"{name}: {sign!r}")

    def test_imports_stand_on_top_and_take_only_what_is_let(self):
        for name, tree in trees():
            on_top = [node for node in tree.body if isinstance(node, (ast.Import, ast.ImportFrom))]
            everywhere = [node for node in ast.walk(tree) if isinstance(node, (ast.Import, ast.ImportFrom))]
            self.assertEqual(len(on_top), len(everywhere), name)
            for node in on_top:
                self.assertIsInstance(node, ast.ImportFrom, name)
                self.assertEqual(node.level, 0, name)
                for word in node.names:
                    own = node.module.startswith("loopwords.") and word.name != "*"
                    self.assertTrue(own or word.name in LIBRARY.get(node.module, ()), f"{name}: {word.name}")

    def test_only_builtins_that_are_let(self):
        for name, tree in trees():
            for node in ast.walk(tree):
                if isinstance(node, ast.Name) and hasattr(builtins, node.id):
                    self.assertIn(node.id, BUILTINS, f"{name}:{node.lineno}")

    def test_is_only_with_none_true_and_false(self):
        for name, tree in trees():
            for node in ast.walk(tree):
                if isinstance(node, ast.Compare) and any(isinstance(op, (ast.Is, ast.IsNot)) for op in node.ops):
                    self.assertIsInstance(node.comparators[0], ast.Constant, f"{name}:{node.lineno}")

    def test_no_floats_and_no_slash(self):
        for name, tree in trees():
            for node in ast.walk(tree):
                self.assertNotIsInstance(node, ast.Div, name)
                if isinstance(node, ast.Constant):
                    self.assertNotIsInstance(node.value, (float, complex), name)


if __name__ == "__main__":
    unittest.main()
