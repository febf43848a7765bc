"""Some rules of ../shared/LANGUAGE.md that a look at the syntax can tell."""

import ast
import builtins
import os
import unittest

HERE = os.path.dirname(os.path.abspath(__file__))
PACKAGE = os.path.join(os.path.dirname(HERE), "stoodthere")

BUILTINS = set(
    "len range enumerate zip min max sum abs sorted reversed int str bool bytes list tuple dict set frozenset isinstance"
    " ord repr any all divmod pow getattr hasattr setattr iter next map property staticmethod classmethod super object"
    " float Exception ValueError TypeError KeyError IndexError LookupError ZeroDivisionError ArithmeticError"
    " OverflowError RuntimeError NotImplementedError AttributeError StopIteration NotImplemented".split()
)
LIBRARY = {
    "heapq": {"heappush", "heappop", "heapify", "heapreplace", "heappushpop"},
    "math": {"gcd", "lcm", "isqrt", "comb", "perm", "factorial"},
    "itertools": {"product", "combinations", "permutations", "chain", "accumulate", "pairwise", "islice", "zip_longest"},
    "collections": {"defaultdict"},
    "__future__": {"annotations"},
}


def files_of_package():
    found = []
    for folder, folders, names in os.walk(PACKAGE):
        folders[:] = [name for name in folders if name != "__pycache__"]
        found.extend(os.path.join(folder, name) for name in names)
    return sorted(found)


def text_of(path):
    with open(path, encoding="ascii") as file:
        return file.read()


class TestLanguage(unittest.TestCase):

    def setUp(self):
        self.files = files_of_package()
        self.trees = {path: ast.parse(text_of(path)) for path in self.files}

    def each_node(self, *sorts):
        for path, tree in self.trees.items():
            for node in ast.walk(tree):
                if isinstance(node, sorts):
                    yield f"{os.path.basename(path)}:{getattr(node, 'lineno', 0)}", node

    def test_files(self):
        self.assertLessEqual(len(self.files), 100)
        for path in self.files:
            name, ending = os.path.splitext(os.path.basename(path))
            self.assertEqual(ending, ".py")
            self.assertRegex(name, "^[a-z0-9_]+$")
            self.assertFalse(name.startswith(("test", "law_")), path)
            self.assertNotIn(name, dir(builtins))

    def test_sizes_and_characters(self):
        for path in self.files:
            lines = text_of(path).split("\n")
            self.assertLessEqual(len(lines) - 1, 399, path)
            for number, line in enumerate(lines, 1):
                self.assertRegex(line, "^[ -~]{0,120}$", f"{path}:{number}")
        for at, node in self.each_node(ast.FunctionDef):
            self.assertLessEqual(node.end_lineno - node.lineno + 1, 40, at)

    def test_imports(self):
        below = {}
        for path, tree in self.trees.items():
            below[path] = set()
            for node in ast.walk(tree):
                if isinstance(node, ast.ImportFrom):
                    self.check_import(path, node, below[path])
        while below:
            free = [path for path, own in below.items() if not own]
            self.assertTrue(free, f"files import from each other: {sorted(below)}")
            below = {path: own - set(free) for path, own in below.items() if path not in free}

    def check_import(self, path, node, below):
        self.assertEqual(node.level, 0, path)
        names = {alias.name for alias in node.names}
        self.assertTrue(all(alias.asname is None for alias in node.names), path)
        if node.module in LIBRARY:
            self.assertLessEqual(names, LIBRARY[node.module], path)
            return
        folders = node.module.split(".")
        self.assertEqual(folders[0], "stoodthere", path)
        source = os.path.join(os.path.dirname(PACKAGE), *folders) + ".py"
        self.assertLessEqual(names, self.names_at_top(source), path)
        below.add(source)

    def names_at_top(self, path):
        names = set()
        for node in self.trees[path].body:
            if isinstance(node, (ast.FunctionDef, ast.ClassDef)):
                names.add(node.name)
            elif isinstance(node, ast.Assign):
                names.update(target.id for target in node.targets)
        return names

    def test_all_that_is_imported_is_used(self):
        for path, tree in self.trees.items():
            imported = {alias.name for node in tree.body if isinstance(node, ast.ImportFrom) for alias in node.names}
            used = {node.id for node in ast.walk(tree) if isinstance(node, ast.Name)}
            self.assertLessEqual(imported, used, path)

    def test_no_name_of_a_file_means_something_else_inside(self):
        for path, tree in self.trees.items():
            top = self.names_at_top(path)
            top |= {alias.name for node in tree.body if isinstance(node, ast.ImportFrom) for alias in node.names}
            for function in ast.walk(tree):
                if not isinstance(function, (ast.FunctionDef, ast.Lambda)):
                    continue
                names = {node.arg for node in ast.walk(function.args) if isinstance(node, ast.arg)}
                names |= {node.id for node in ast.walk(function)
                          if isinstance(node, ast.Name) and isinstance(node.ctx, ast.Store)}
                self.assertFalse(names & (top | set(dir(builtins))), f"{path}:{function.lineno}")

    def test_no_method_has_the_name_of_an_attribute(self):
        methods = {node.name for _, made in self.each_node(ast.ClassDef) for node in made.body
                   if isinstance(node, ast.FunctionDef)}
        attributes = {node.attr for _, node in self.each_node(ast.Attribute) if isinstance(node.ctx, ast.Store)}
        self.assertEqual(methods & attributes, set())

    def test_lists_where_objects_may_be_compared(self):
        """Beside classes with __eq__ there are no generators, and no list sorts itself."""
        for at, _ in self.each_node(ast.GeneratorExp, ast.Yield, ast.YieldFrom):
            self.fail(at)
        for at, node in self.each_node(ast.Attribute):
            self.assertNotEqual(node.attr, "sort", at)

    def test_no_other_builtins(self):
        for at, node in self.each_node(ast.Name):
            if node.id in dir(builtins) and not at.startswith("__main__"):
                self.assertIn(node.id, BUILTINS, at)
                self.assertIsInstance(node.ctx, ast.Load, at)

    def test_no_floats_and_no_barred_statements(self):
        for at, _ in self.each_node(ast.Global, ast.AsyncFunctionDef, ast.Await, ast.Div):
            self.fail(at)
        for at, node in self.each_node(ast.Constant):
            self.assertNotIsInstance(node.value, (float, complex), at)
            if isinstance(node.value, str):
                self.assertNotIn(chr(37), node.value, at)


if __name__ == "__main__":
    unittest.main()
