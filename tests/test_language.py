"""The files of the package keep to the small language that the project uses.

These checks are only those that a parsed file can answer for certain.
"""

import ast
import builtins
import os
import unittest

ROOT = os.path.join(os.path.dirname(os.path.dirname(os.path.abspath(__file__))), "firmrows")
BUILTINS = set((
    "len range enumerate zip min max sum abs sorted reversed int str bool bytes list tuple dict set frozenset isinstance "
    "ord repr any all divmod pow Exception ValueError TypeError KeyError IndexError LookupError ZeroDivisionError "
    "ArithmeticError OverflowError RuntimeError NotImplementedError NotImplemented property staticmethod classmethod super"
).split())
LIBRARY = {
    "itertools": {"product", "combinations", "permutations"},
    "math": {"gcd", "lcm", "isqrt", "comb", "perm", "factorial"},
    "heapq": {"heappush", "heappop", "heapify", "heapreplace", "heappushpop"},
}
METHODS = set((
    "append clear copy count endswith extend find get index insert isalnum isalpha isdigit islower isspace isupper items "
    "join keys ljust lower lstrip partition pop remove replace reverse rfind rjust rpartition rsplit rstrip setdefault "
    "split splitlines startswith strip update upper values zfill bit_length isascii add discard"
).split())
DOUBLES = set((
    "__init__ __eq__ __repr__ __str__ __len__ __call__ __contains__ __bool__ __or__ __and__ __sub__ __xor__"
).split())
BARRED_WORDS = ("mro", "elements", "open", "input", "law", "register", "eval", "exec", "id", "vars", "dir", "type", "sys")
PLAIN_STATEMENTS = (ast.ImportFrom, ast.FunctionDef, ast.ClassDef, ast.Assign, ast.Expr)


def package_files():
    found = []
    for folder, _, names in os.walk(ROOT):
        if not folder.endswith("__pycache__"):
            found.extend(os.path.join(folder, name) for name in sorted(names))
    return sorted(found)


def module_name(path):
    parts = os.path.relpath(path, os.path.dirname(ROOT))[:-3].split(os.sep)
    return ".".join(parts[:-1] if parts[-1] == "__init__" else parts)


def defined_in(tree):
    names = {node.name for node in tree.body if isinstance(node, (ast.FunctionDef, ast.ClassDef))}
    return names | {target.id for node in tree.body if isinstance(node, ast.Assign) for target in node.targets}


def imports_of(tree):
    return [(node.module, alias) for node in tree.body if isinstance(node, ast.ImportFrom) for alias in node.names]


class LanguageTests(unittest.TestCase):
    @classmethod
    def setUpClass(cls):
        cls.texts = {path: open_text(path) for path in package_files()}
        cls.trees = {path: ast.parse(text) for path, text in cls.texts.items()}
        cls.modules = {module_name(path): tree for path, tree in cls.trees.items()}
        cls.methods = {node.name for tree in cls.trees.values() for node in ast.walk(tree) if isinstance(node, ast.FunctionDef)}

    def nodes(self, *kinds):
        """Pairs (place, node) of the nodes of these kinds in all files."""
        return [(f"{os.path.relpath(path, ROOT)}:{getattr(node, 'lineno', 0)}", node)
                for path, tree in self.trees.items() for node in ast.walk(tree) if isinstance(node, kinds)]

    def test_files(self):
        for path, text in self.texts.items():
            with self.subTest(file=path):
                self.assertTrue(path.endswith(".py") and os.path.basename(path) == os.path.basename(path).lower())
                self.assertTrue(os.path.exists(os.path.join(os.path.dirname(path), "__init__.py")))
                self.assertTrue(all(sign == "\n" or " " <= sign <= "~" for sign in text))
                lines = text.split("\n")
                self.assertLessEqual(len(lines), 399)
                self.assertLessEqual(max(len(line) for line in lines), 120)
        self.assertLessEqual(len(self.texts), 100)

    def test_functions_are_short_and_have_docstrings(self):
        for place, node in self.nodes(ast.FunctionDef):
            self.assertLessEqual(node.end_lineno - node.lineno + 1, 40, place)
            self.assertTrue(node.name.startswith("__") or ast.get_docstring(node), place)
            if node.name.startswith("__"):
                self.assertIn(node.name, DOUBLES, place)
            for decorator in node.decorator_list:
                self.assertIn(ast.unparse(decorator), ("property", "classmethod", "staticmethod"), place)

    def test_module_level(self):
        for path, tree in self.trees.items():
            names = [alias.name for _, alias in imports_of(tree)]
            for node in tree.body:
                with self.subTest(file=path, line=node.lineno):
                    self.assertIsInstance(node, PLAIN_STATEMENTS)
                    if isinstance(node, ast.Expr):
                        self.assertIs(node, tree.body[0])
                        self.assertIsInstance(node.value, ast.Constant)
                    if isinstance(node, ast.Assign):
                        self.assertIsInstance(node.value, (ast.Constant, ast.UnaryOp, ast.Tuple, ast.List, ast.Dict))
                    if isinstance(node, (ast.FunctionDef, ast.ClassDef)):
                        names.append(node.name)
            self.assertEqual(len(names), len(set(names)))

    def test_imports(self):
        self.assertEqual(self.nodes(ast.Import), [])
        for path, tree in self.trees.items():
            for source, alias in imports_of(tree):
                with self.subTest(file=path, name=alias.name):
                    self.assertIs(alias.asname, None)
                    if source in LIBRARY:
                        self.assertIn(alias.name, LIBRARY[source])
                    else:
                        self.assertIn(alias.name, defined_in(self.modules[source]))
                    uses = [node for node in ast.walk(tree) if isinstance(node, ast.Name) and node.id == alias.name]
                    self.assertTrue(uses, "imported and not used")

    def test_no_circle_of_imports(self):
        needs = {name: {source for source, _ in imports_of(tree) if source in self.modules}
                 for name, tree in self.modules.items()}
        while needs:
            free = [name for name, sources in needs.items() if not sources & set(needs)]
            self.assertTrue(free, needs)
            for name in free:
                del needs[name]

    def test_names(self):
        # The module doctest leaves a name _ there.
        own = set(dir(builtins)) - {"_"}
        for path, tree in self.trees.items():
            taken = {alias.name for _, alias in imports_of(tree)} | {
                node.name for node in tree.body if isinstance(node, ast.ClassDef)}
            for node in ast.walk(tree):
                name = node.arg if isinstance(node, ast.arg) else node.id if isinstance(node, ast.Name) else None
                if name is not None:
                    with self.subTest(file=path, line=node.lineno, name=name):
                        self.assertNotIn(name, BARRED_WORDS)
                        self.assertFalse(name.startswith("__"))
                        if isinstance(node, ast.arg) or isinstance(node.ctx, ast.Store):
                            self.assertFalse(name in own or name in taken)
                        elif name in own:
                            self.assertTrue(name in BUILTINS)

    def test_statements_and_expressions(self):
        self.assertEqual(self.nodes(ast.AsyncFunctionDef, ast.AsyncFor, ast.AsyncWith, ast.Await, ast.Div, ast.Import), [])
        for place, node in self.nodes(ast.Constant):
            self.assertNotIsInstance(node.value, (float, complex), place)
            if isinstance(node.value, str):
                self.assertNotIn("%", node.value, place)
        for place, node in self.nodes(ast.Compare):
            for sign, side in zip(node.ops, node.comparators):
                if isinstance(sign, (ast.Is, ast.IsNot)):
                    self.assertIsInstance(side, ast.Constant, place)
        for place, node in self.nodes(ast.Raise):
            self.assertTrue(node.exc is None or isinstance(node.exc, ast.Call) and isinstance(node.exc.func, ast.Name), place)

    def test_calls(self):
        for place, node in self.nodes(ast.Call):
            if isinstance(node.func, ast.Attribute):
                self.assertIn(node.func.attr, METHODS | self.methods, place)
            for value in node.args:
                if isinstance(value, ast.Starred):
                    self.assertIsInstance(value.value, (ast.Name, ast.Attribute, ast.Tuple, ast.List), place)
            if isinstance(node.func, ast.Name) and node.func.id in ("any", "all", "min", "max", "sum", "sorted"):
                self.assertFalse([value for value in node.args if isinstance(value, ast.GeneratorExp)], place)

    def test_generators(self):
        made = {node.name for _, node in self.nodes(ast.FunctionDef)
                if any(isinstance(part, (ast.Yield, ast.YieldFrom)) for part in ast.walk(node))}
        self.assertGreater(len(made), 3)
        for path, tree in self.trees.items():
            iterated = [node.iter for node in ast.walk(tree) if isinstance(node, (ast.For, ast.comprehension))]
            iterated += [node.value for node in ast.walk(tree) if isinstance(node, ast.YieldFrom)]
            for node in ast.walk(tree):
                if isinstance(node, ast.Call) and getattr(node.func, "id", getattr(node.func, "attr", None)) in made:
                    with self.subTest(file=path, line=node.lineno):
                        self.assertIn(node, iterated)
                        for value in node.args:
                            plain = isinstance(value, (ast.Name, ast.Attribute, ast.Constant)) or ast.unparse(value) == "{}"
                            self.assertTrue(plain or isinstance(value, ast.Call) and ast.unparse(value.func) == "len")

    def test_generators_have_names_of_their_own(self):
        names = [node.name for _, node in self.nodes(ast.FunctionDef)]
        for _, node in self.nodes(ast.FunctionDef):
            if any(isinstance(part, (ast.Yield, ast.YieldFrom)) for part in ast.walk(node)):
                self.assertEqual(names.count(node.name), 1, node.name)
                self.assertNotIn(node.name, METHODS)

    def test_lists_and_dicts_of_modules_are_only_read(self):
        for path, tree in self.trees.items():
            held = {target.id for node in tree.body if isinstance(node, ast.Assign) and isinstance(node.value, (ast.Dict, ast.List))
                    for target in node.targets}
            parents = {child: node for node in ast.walk(tree) for child in ast.iter_child_nodes(node)}
            for node in ast.walk(tree):
                if isinstance(node, ast.Name) and node.id in held and isinstance(node.ctx, ast.Load):
                    above = parents[node]
                    with self.subTest(file=path, line=node.lineno):
                        copied = isinstance(above, ast.Call) and ast.unparse(above.func) in ("dict", "list", "len")
                        read = isinstance(above, ast.Attribute) and above.attr == "get"
                        self.assertTrue(copied or read or isinstance(above, (ast.Subscript, ast.Compare)))
            for node in ast.walk(tree):
                if isinstance(node, ast.Call):
                    self.assertFalse(isinstance(node.func, ast.Subscript), "a function of a table gets a name first")

    def test_finally(self):
        for place, node in self.nodes(ast.Try):
            for statement in node.finalbody:
                self.assertIsInstance(statement, ast.Assign, place)
                self.assertFalse([part for part in ast.walk(statement) if isinstance(part, (ast.Call, ast.Subscript, ast.BinOp))], place)
            for handler in node.handlers:
                told = handler.type.elts if isinstance(handler.type, ast.Tuple) else [handler.type]
                for name in told:
                    self.assertIn(name.id, {kind.name for kind in self.modules["firmrows.errors"].body if isinstance(kind, ast.ClassDef)}, place)

    def test_no_sets_get_more(self):
        # A class of the package has a method called add.
        for place, node in self.nodes(ast.Assign):
            value = node.value
            kept = isinstance(value, (ast.Set, ast.SetComp)) or isinstance(value, ast.Call) and ast.unparse(value.func) == "set"
            self.assertFalse(kept, place)

    def test_attributes(self):
        properties = {node.name for _, node in self.nodes(ast.FunctionDef)
                      if any(ast.unparse(decorator) == "property" for decorator in node.decorator_list)}
        stored = {node.attr for _, node in self.nodes(ast.Attribute) if isinstance(node.ctx, ast.Store)}
        self.assertFalse(stored & (properties | self.methods | METHODS))
        plain = [node.name for _, node in self.nodes(ast.FunctionDef) if not node.decorator_list and node.args.args[:1]
                 and node.args.args[0].arg == "self"]
        self.assertFalse(properties & (set(plain) | METHODS))

    def test_methods_that_only_look(self):
        for place, node in self.nodes(ast.FunctionDef):
            if node.name == "__eq__":
                self.assertIn("isinstance(other, ", ast.unparse(node.body[0]), place)
            if node.name in ("__eq__", "__len__", "__str__", "__bool__", "__contains__"):
                self.assertIsInstance(node.body[-1], ast.Return, place)
                self.assertFalse([part for part in ast.walk(node) if isinstance(part, (ast.Assign, ast.AugAssign))], place)


def open_text(path):
    with open(path, encoding="utf-8") as file:
        return file.read()


if __name__ == "__main__":
    unittest.main()
