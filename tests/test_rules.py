"""Those rules of the language subset that a short look at the files can tell."""

import ast
import builtins
import re
import unittest
import warnings
from pathlib import Path

PACKAGE = Path(__file__).resolve().parent.parent / "farwrap"
LIBRARY = {
    "heapq": {"heappush", "heappop", "heapify", "heapreplace", "heappushpop"},
    "math": {"gcd", "lcm", "isqrt", "comb", "perm", "factorial"},
    "itertools": {
        "product", "combinations", "permutations", "chain", "accumulate", "pairwise", "islice", "zip_longest",
    },
    "collections": {"defaultdict"},
}


def sources():
    return [(path.name, path.read_bytes().decode("ascii")) for path in sorted(PACKAGE.glob("**/*.py"))]


def nodes():
    return [(name, node) for name, text in sources() for node in ast.walk(ast.parse(text))]


def bound_names(node):
    if isinstance(node, (ast.FunctionDef, ast.ClassDef)):
        return [node.name]
    if isinstance(node, ast.arg):
        return [node.arg]
    if isinstance(node, ast.Name) and not isinstance(node.ctx, ast.Load):
        return [node.id]
    return []


def top_names(node):
    """The names that a statement at module level defines."""
    if isinstance(node, ast.Assign):
        return [target.id for target in node.targets]
    return bound_names(node)


class RulesTest(unittest.TestCase):

    def test_the_folder_holds_python_files_alone(self):
        for path in PACKAGE.glob("**/*"):
            if "__pycache__" not in path.parts and path.is_file():
                self.assertRegex(path.name, r"^[a-z0-9_]+\.py$")

    def test_characters_and_sizes(self):
        for name, text in sources():
            self.assertIsNone(re.search("[^ -~\n]", text), name)
            self.assertLessEqual(len(text.splitlines()), 399, name)
            for line in text.splitlines():
                self.assertLessEqual(len(line), 120, f"{name}: {line}")

    def test_functions_are_short(self):
        for name, node in nodes():
            if isinstance(node, ast.FunctionDef):
                self.assertLessEqual(node.end_lineno - node.lineno + 1, 40, f"{name}: {node.name}")

    def test_imports_name_functions_of_the_package_or_of_the_short_list(self):
        for name, node in nodes():
            self.assertNotIsInstance(node, ast.Import, name)
            if isinstance(node, ast.ImportFrom) and node.module in LIBRARY:
                self.assertLessEqual({alias.name for alias in node.names}, LIBRARY[node.module], name)
            elif isinstance(node, ast.ImportFrom):
                self.assertEqual(node.level, 0, name)
                self.assertRegex(node.module, r"^farwrap\.", name)

    def test_imports_name_the_file_that_defines(self):
        files = {name[:-3]: ast.parse(text) for name, text in sources()}
        for name, tree in files.items():
            for node in tree.body:
                if isinstance(node, ast.ImportFrom) and node.module.startswith("farwrap."):
                    bound = [found for part in files[node.module[8:]].body for found in top_names(part)]
                    for alias in node.names:
                        self.assertIn(alias.name, bound, f"{name}: {node.module}")
                        self.assertIsNone(alias.asname, name)

    def test_no_two_files_import_from_each_other(self):
        needs = {}
        for name, node in nodes():
            needs.setdefault(name[:-3], set())
            if isinstance(node, ast.ImportFrom) and node.module.startswith("farwrap."):
                needs[name[:-3]].add(node.module[8:])
        done = set()
        while len(done) < len(needs):
            ready = [name for name in needs if name not in done and needs[name] <= done]
            self.assertTrue(ready, "a circle of imports")
            done.update(ready)

    def test_imports_are_used_and_name_nothing_else(self):
        for name, text in sources():
            tree = ast.parse(text)
            imported = {
                alias.name for node in tree.body if isinstance(node, ast.ImportFrom) for alias in node.names
            }
            read = {node.id for node in ast.walk(tree) if isinstance(node, ast.Name) and isinstance(node.ctx, ast.Load)}
            self.assertLessEqual(imported, read, name)
            for node in ast.walk(tree):
                self.assertFalse(imported & set(bound_names(node)), name)

    def test_no_name_of_a_builtin_is_bound(self):
        found = nodes()
        methods = [method for _, node in found if isinstance(node, ast.ClassDef) for method in node.body]
        for name, node in found:
            if node not in methods:
                for bound in bound_names(node):
                    self.assertFalse(hasattr(builtins, bound), f"{name}: {bound}")

    def test_no_floats(self):
        for name, node in nodes():
            self.assertNotIsInstance(node, ast.Div, name)
            self.assertFalse(isinstance(node, ast.Constant) and isinstance(node.value, (float, complex)), name)

    def test_no_percent_sign_in_a_string(self):
        for name, node in nodes():
            if isinstance(node, ast.Constant) and isinstance(node.value, str):
                self.assertNotIn("%", node.value, name)

    def test_python_gives_no_warning(self):
        for name, text in sources():
            with warnings.catch_warnings():
                warnings.simplefilter("error")
                compile(text, name, "exec")


if __name__ == "__main__":
    unittest.main()
