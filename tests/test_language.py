"""The parts of ../shared/LANGUAGE.md that a look at the syntax can tell."""

import ast
import builtins
import os
import unittest

HERE = os.path.dirname(os.path.abspath(__file__))
PACKAGE = os.path.join(os.path.dirname(HERE), "stoodthere")

BUILTINS = set(
    "len range enumerate zip min max sum abs sorted reversed int str bool list tuple dict set isinstance ord repr any"
    " all divmod ValueError KeyError iter next map".split()
)
METHODS = set(
    "append clear copy count endswith extend find get index insert isalnum isalpha isdigit islower isspace isupper"
    " items join keys ljust lower lstrip partition pop remove replace reverse rfind rjust rpartition rsplit rstrip"
    " setdefault split splitlines startswith strip update upper values zfill bit_length".split()
)
LIBRARY = {"heapq": {"heappush", "heappop", "heapify"}}
BARRED_NAMES = set(
    "register mro elements open input law version_info with_traceback add_note type typing enum compile dir eval exec"
    " exit globals hash id locals vars".split()
)
DOUBLE = set("__init__ __eq__ __repr__ __str__ __len__".split())


def files_of_package():
    found = []
    for folder, _, names in os.walk(PACKAGE):
        if os.path.basename(folder) == "__pycache__":
            continue
        found.extend(os.path.join(folder, name) for name in names)
    return sorted(found)


def text_of(path):
    with open(path, encoding="ascii") as file:
        return file.read()


def bound_names(tree):
    """All names that are bound anywhere below tree: parameters, targets, functions, handlers."""
    for node in ast.walk(tree):
        if isinstance(node, ast.arg):
            yield node.arg
        elif isinstance(node, ast.Name) and not isinstance(node.ctx, ast.Load):
            yield node.id
        elif isinstance(node, (ast.FunctionDef, ast.ClassDef)):
            yield node.name
        elif isinstance(node, ast.ExceptHandler) and node.name:
            yield node.name


class TestLanguage(unittest.TestCase):

    def setUp(self):
        self.files = [path for path in files_of_package() if path.endswith(".py")]
        self.trees = {path: ast.parse(text_of(path)) for path in self.files}
        self.own_methods = {
            node.name
            for tree in self.trees.values()
            for outer in ast.walk(tree)
            if isinstance(outer, ast.ClassDef)
            for node in outer.body
            if isinstance(node, ast.FunctionDef)
        }

    def each_node(self, *kinds):
        for path, tree in self.trees.items():
            for node in ast.walk(tree):
                if isinstance(node, kinds):
                    yield f"{os.path.basename(path)}:{getattr(node, 'lineno', 0)}", node

    def test_l1_l14_files(self):
        self.assertEqual(files_of_package(), self.files)
        self.assertLessEqual(len(self.files), 100)
        for path in self.files:
            name = os.path.basename(path)[:-3]
            self.assertRegex(name, "^[a-z_]+$")
            self.assertFalse(name.startswith(("test", "law_")), path)
            self.assertNotIn(name, dir(builtins))

    def test_l2_l16_imports(self):
        graph = {}
        for path, tree in self.trees.items():
            own = set()
            for node in ast.walk(tree):
                self.assertNotIsInstance(node, ast.Import, path)
                if not isinstance(node, ast.ImportFrom):
                    continue
                self.assertEqual(node.level, 0, path)
                self.assertTrue(all(alias.asname is None for alias in node.names), path)
                names = {alias.name for alias in node.names}
                if node.module in LIBRARY:
                    self.assertLessEqual(names, LIBRARY[node.module], path)
                    continue
                package, file = node.module.split(".")
                self.assertEqual(package, "stoodthere", path)
                defined = os.path.join(PACKAGE, file + ".py")
                own.add(defined)
                self.assertLessEqual(names, self.names_at_top(defined), path)
            graph[path] = own
        while graph:
            free = [path for path in graph if not graph[path]]
            self.assertTrue(free, "files import from each other")
            graph = {path: own - set(free) for path, own in graph.items() if path not in free}

    def names_at_top(self, path):
        names = set()
        for node in self.trees[path].body:
            if isinstance(node, (ast.FunctionDef, ast.ClassDef)):
                names.add(node.name)
            elif isinstance(node, ast.Assign):
                names.update(target.id for target in node.targets)
        return names

    def test_imports_are_used(self):
        for path, tree in self.trees.items():
            used = {node.id for node in ast.walk(tree) if isinstance(node, ast.Name)}
            for node in ast.walk(tree):
                if isinstance(node, ast.ImportFrom):
                    self.assertLessEqual({alias.name for alias in node.names}, used, path)

    def test_l3_module_level(self):
        plain = (ast.FunctionDef, ast.ClassDef, ast.ImportFrom, ast.Assign)
        for path, tree in self.trees.items():
            self.assertTrue(ast.get_docstring(tree), path)
            for node in tree.body[1:]:
                self.assertIsInstance(node, plain, path)
                if isinstance(node, ast.Assign):
                    self.assertEqual(len(node.targets), 1, path)
                    ast.literal_eval(node.value)

    def test_l4_l10_functions(self):
        for at, node in self.each_node(ast.FunctionDef):
            self.assertLessEqual(node.end_lineno - node.lineno + 1, 40, at)
            self.assertEqual(node.decorator_list, [], at)
            self.assertIsNone(node.args.vararg, at)
            self.assertIsNone(node.args.kwarg, at)
            self.assertTrue(ast.get_docstring(node) or node.name in DOUBLE, at)

    def test_l10_l14_lines(self):
        for path in self.files:
            lines = text_of(path).split("\n")
            self.assertLessEqual(len(lines), 399, path)
            self.assertEqual(lines[-1], "", path)
            for line in lines:
                self.assertLessEqual(len(line), 120, path)
                self.assertRegex(line, "^[ -~]*$", path)
                self.assertEqual(line, line.rstrip(), path)

    def test_l5_l12_double_underscores(self):
        for at, node in self.each_node(ast.FunctionDef, ast.Name, ast.Attribute):
            name = getattr(node, "name", None) or getattr(node, "id", None) or getattr(node, "attr", None)
            self.assertTrue(not name.startswith("__") or name in DOUBLE, at)

    def test_l6_statements(self):
        barred = (
            ast.Global, ast.AsyncFunctionDef, ast.Await, ast.Yield, ast.YieldFrom, ast.GeneratorExp, ast.SetComp,
            ast.Div, ast.JoinedStr, ast.Lambda,
        )
        allowed_here = (ast.SetComp, ast.JoinedStr)
        for at, node in self.each_node(*[kind for kind in barred if kind not in allowed_here]):
            self.fail(at)
        for at, node in self.each_node(ast.Constant):
            self.assertNotIsInstance(node.value, (float, complex), at)

    def test_l8_l15_names(self):
        for path, tree in self.trees.items():
            imported = {
                alias.name for node in ast.walk(tree) if isinstance(node, ast.ImportFrom) for alias in node.names
            }
            classes = {node.name for node in ast.walk(tree) if isinstance(node, ast.ClassDef)}
            classes_seen = []
            for name in bound_names(tree):
                self.assertNotIn(name, dir(builtins), path)
                self.assertNotIn(name, BARRED_NAMES, path)
                self.assertNotIn(name, imported, path)
                if name in classes:
                    classes_seen.append(name)
            self.assertEqual(sorted(classes_seen), sorted(classes), path)
            for node in ast.walk(tree):
                if isinstance(node, ast.Name) and node.id in dir(builtins):
                    self.assertIn(node.id, BUILTINS, path)

    def test_l15_one_binding(self):
        for path, tree in self.trees.items():
            names = [alias.name for node in tree.body if isinstance(node, ast.ImportFrom) for alias in node.names]
            names += [node.name for node in tree.body if isinstance(node, (ast.FunctionDef, ast.ClassDef))]
            names += [node.targets[0].id for node in tree.body if isinstance(node, ast.Assign)]
            self.assertEqual(len(names), len(set(names)), path)

    def test_l12_underscore_is_not_read(self):
        for at, node in self.each_node(ast.Name):
            self.assertFalse(node.id == "_" and isinstance(node.ctx, ast.Load), at)

    def test_l18_methods_and_attributes(self):
        for at, node in self.each_node(ast.ClassDef):
            methods = [inner.name for inner in node.body if isinstance(inner, ast.FunctionDef)]
            self.assertEqual(len(methods), len(set(methods)), at)
            attributes = {
                inner.attr
                for inner in ast.walk(node)
                if isinstance(inner, ast.Attribute) and isinstance(inner.ctx, ast.Store)
            }
            self.assertEqual(attributes & set(methods), set(), at)
            self.assertEqual(attributes & METHODS, set(), at)

    def test_l20_is(self):
        for at, node in self.each_node(ast.Compare):
            for sign, right in zip(node.ops, node.comparators):
                if isinstance(sign, (ast.Is, ast.IsNot)):
                    self.assertIsInstance(right, ast.Constant, at)
                    self.assertIn(right.value, (None, True, False), at)

    def test_l22_l25_calls(self):
        keywords = {"key", "default", "reverse", "start"}
        for at, node in self.each_node(ast.Call):
            for keyword in node.keywords:
                self.assertIn(keyword.arg, keywords, at)
            if isinstance(node.func, ast.Attribute):
                self.assertIn(node.func.attr, METHODS | self.own_methods, at)
                self.assertNotEqual(node.func.attr, "sort", at)

    def test_l27_strings(self):
        for at, node in self.each_node(ast.Constant):
            if isinstance(node.value, str):
                self.assertNotIn(chr(37), node.value, at)
                self.assertFalse(node.value.endswith(("._", ".__")), at)


if __name__ == "__main__":
    unittest.main()
