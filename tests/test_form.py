"""The form of the package's code, as far as it can be seen from the code alone."""

import ast
import builtins
import os
import tokenize
import unittest

FOLDER = os.path.join(os.path.dirname(os.path.dirname(os.path.abspath(__file__))), "ownwake")
BUILTINS = set("""
    len range enumerate zip min max sum abs sorted reversed int str bool bytes list tuple dict set frozenset isinstance
    ord repr any all divmod pow getattr hasattr setattr iter next Exception ValueError TypeError KeyError IndexError
    LookupError ZeroDivisionError ArithmeticError OverflowError RuntimeError NotImplementedError AttributeError
    StopIteration NotImplemented property classmethod staticmethod super map
    """.split())
METHODS = set("""
    append clear copy count endswith extend find get index insert isalnum isalpha isdigit islower isspace isupper items
    join keys ljust lower lstrip partition pop remove replace reverse rfind rjust rpartition rsplit rstrip setdefault
    split splitlines startswith strip update upper values zfill bit_length removeprefix removesuffix add discard
    """.split())
DUNDERS = set("""
    __init__ __eq__ __repr__ __str__ __len__ __enter__ __exit__ __call__ __iter__ __add__ __sub__ __mul__ __bool__
    __contains__ __getitem__ __setitem__
    """.split())
MODULES = {"heapq", "math", "itertools", "collections"}
BARRED = {"register", "mro", "elements", "open", "input", "law", "version_info", "with_traceback", "add_note"}
WORDS = set("""
    type typing typing_extensions enum Enum IntEnum StrEnum Flag IntFlag Generic Protocol ABC ABCMeta namedtuple
    NamedTuple TypedDict TYPE_CHECKING abstractmethod
    """.split())
WHOLE = {"any", "all", "min", "max", "sum", "sorted"}


def files():
    return sorted(name for name in os.listdir(FOLDER) if name != "__pycache__")


def source(name):
    with open(os.path.join(FOLDER, name), encoding="utf-8") as file:
        return file.read()


TREES = {name: ast.parse(source(name)) for name in files()}


def nodes(kinds):
    for name, tree in TREES.items():
        for node in ast.walk(tree):
            if isinstance(node, kinds):
                yield name, node


def own_methods():
    return {node.name for _, kind in nodes(ast.ClassDef) for node in kind.body if isinstance(node, ast.FunctionDef)}


class Form(unittest.TestCase):
    def test_files(self):
        for name in files():
            self.assertRegex(name, r"^[a-z_0-9]+\.py$")
        self.assertIn("__init__.py", files())

    def test_sizes_and_characters(self):
        for name in files():
            text = source(name)
            lines = text.split("\n")
            self.assertLessEqual(len(lines) - 1, 399, name)
            self.assertLessEqual(max(map(len, lines)), 120, name)
            self.assertTrue(all(letter == "\n" or " " <= letter <= "~" for letter in text), name)
        for name, node in nodes(ast.FunctionDef):
            self.assertLessEqual(node.end_lineno - node.lineno + 1, 40, (name, node.name))
            self.assertIsNotNone(ast.get_docstring(node) or node.name.startswith("__"), (name, node.name))

    def test_imports(self):
        graph = {}
        for name, node in nodes((ast.Import, ast.ImportFrom)):
            self.assertIsInstance(node, ast.ImportFrom, name)
            self.assertEqual(node.level, 0, name)
            self.assertIn(node, TREES[name].body, name)
            for alias in node.names:
                self.assertIsNone(alias.asname, name)
            if node.module in MODULES:
                continue
            self.assertTrue(node.module.startswith("ownwake."), (name, node.module))
            home = node.module.split(".")[1] + ".py"
            graph.setdefault(name, []).append(home)
            found = {some.name for some in TREES[home].body if isinstance(some, (ast.FunctionDef, ast.ClassDef))}
            found |= {some.targets[0].id for some in TREES[home].body if isinstance(some, ast.Assign)}
            self.assertLessEqual({alias.name for alias in node.names}, found, name)
        done = []
        while len(done) < len(TREES):
            free = [name for name in TREES if name not in done and set(graph.get(name, [])) <= set(done)]
            self.assertNotEqual(free, [], "files import from each other")
            done += free

    def test_statements_and_expressions(self):
        barred = (ast.Global, ast.AsyncFunctionDef, ast.Await, ast.Div, ast.TryStar)
        self.assertEqual(list(nodes(barred)), [])
        for name, node in nodes(ast.Constant):
            self.assertNotIsInstance(node.value, (float, complex), name)
            if isinstance(node.value, str):
                self.assertNotIn("%", node.value, name)
        for name, node in nodes(ast.Compare):
            for sign, right in zip(node.ops, node.comparators):
                if isinstance(sign, (ast.Is, ast.IsNot)):
                    self.assertIsInstance(right, ast.Constant, name)
        for name, node in nodes(ast.FunctionDef):
            words = [ast.unparse(word) for word in node.decorator_list]
            self.assertIn(words, [[], ["property"], ["classmethod"], ["staticmethod"]], (name, node.name))

    def test_calls(self):
        methods = own_methods()
        for name, node in nodes(ast.Call):
            if isinstance(node.func, ast.Attribute):
                self.assertIn(node.func.attr, METHODS | methods, (name, node.lineno))
            elif isinstance(node.func, ast.Name) and hasattr(builtins, node.func.id):
                self.assertIn(node.func.id, BUILTINS, (name, node.lineno))
                if node.func.id in WHOLE:
                    for part in node.args:
                        self.assertNotIsInstance(part, ast.GeneratorExp, (name, node.lineno))

    def test_reversed_and_stars(self):
        # Where a class has `__getitem__`, only what surely is a list or the like is reversed.
        for name, node in nodes(ast.Call):
            if getattr(node.func, "id", "") == "reversed":
                made = getattr(getattr(node.args[0], "func", None), "id", "")
                self.assertTrue(made in ("list", "tuple", "sorted", "range") or isinstance(node.args[0], (ast.List, ast.Tuple)),
                                (name, node.lineno))
            for part in node.args:
                if isinstance(part, ast.Starred):
                    self.assertIsInstance(part.value, (ast.Name, ast.Attribute, ast.Constant, ast.List, ast.Tuple), name)
            for word in node.keywords:
                self.assertIsNotNone(word.arg, (name, node.lineno))
        self.assertEqual(list(nodes((ast.Lambda, ast.NamedExpr))), [])

    def test_library(self):
        words = {"heapq": {"heappush", "heappop"}, "math": {"gcd", "lcm"}, "itertools": {"product", "combinations", "permutations"}}
        for name, node in nodes(ast.ImportFrom):
            if node.module in MODULES:
                self.assertLessEqual({alias.name for alias in node.names}, words[node.module], name)

    def test_sets(self):
        parents = {}
        for _, node in nodes(ast.AST):
            for child in ast.iter_child_nodes(node):
                parents[child] = node
        for name, node in nodes((ast.Set, ast.SetComp, ast.Call)):
            if isinstance(node, ast.Call) and getattr(node.func, "id", "") != "set":
                continue
            above = parents[node]
            if isinstance(above, ast.Call):
                self.assertIn(getattr(above.func, "id", ""), ("sorted", "len"), (name, node.lineno))
            else:
                self.assertIsInstance(above, (ast.Compare, ast.Assign), (name, node.lineno))

    def test_names(self):
        for name, node in nodes((ast.FunctionDef, ast.ClassDef, ast.arg, ast.Name)):
            word = getattr(node, "name", None) or getattr(node, "arg", None) or getattr(node, "id", None)
            if word.startswith("__"):
                self.assertIn(word, DUNDERS, name)
            self.assertNotIn(word, BARRED, name)
            bound = not isinstance(node, ast.Name) or isinstance(node.ctx, ast.Store)
            if bound:
                self.assertFalse(hasattr(builtins, word) and word not in DUNDERS, (name, word))
            if bound and word == "_":
                self.assertIsInstance(node, (ast.Name, ast.arg), name)
            if isinstance(node, ast.Name) and isinstance(node.ctx, ast.Load):
                self.assertNotEqual(word, "_", (name, node.lineno))
        for name, node in nodes(ast.Attribute):
            self.assertNotIn(node.attr, BARRED, name)
        for name, node in nodes(ast.ClassDef):
            self.assertRegex(node.name, r"^[A-Z][A-Za-z]*$", name)

    def test_no_local_name_is_that_of_an_import_or_a_class(self):
        for name, tree in TREES.items():
            outer = {alias.name for node in tree.body if isinstance(node, ast.ImportFrom) for alias in node.names}
            outer |= {node.name for node in tree.body if isinstance(node, (ast.ClassDef, ast.FunctionDef))}
            for node in ast.walk(tree):
                word = node.arg if isinstance(node, ast.arg) else None
                if isinstance(node, ast.Name) and isinstance(node.ctx, ast.Store):
                    word = node.id
                self.assertNotIn(word, outer, name)

    def test_properties_and_methods_have_names_of_their_own(self):
        properties, methods, attributes, generators = set(), [], set(), set()
        for _, node in nodes(ast.ClassDef):
            for part in node.body:
                if isinstance(part, ast.FunctionDef):
                    marks = [ast.unparse(word) for word in part.decorator_list]
                    (properties.add if marks == ["property"] else methods.append)(part.name)
        for _, node in nodes(ast.Attribute):
            if isinstance(node.ctx, ast.Store):
                attributes.add(node.attr)
        for _, node in nodes(ast.FunctionDef):
            if any(isinstance(part, (ast.Yield, ast.YieldFrom)) for part in ast.walk(node)):
                generators.add(node.name)
        self.assertEqual(properties & set(methods), set())
        self.assertEqual(attributes & (properties | set(methods)), set())
        self.assertNotIn("keys", attributes | set(methods) | properties)
        functions = [node.name for _, node in nodes(ast.FunctionDef)]
        for name in generators:
            self.assertEqual(functions.count(name), 1, name)
        bound = {node.id for _, node in nodes(ast.Name) if isinstance(node.ctx, ast.Store)}
        bound |= {node.arg for _, node in nodes(ast.arg)}
        self.assertEqual(bound & generators, set())

    def test_words_and_escapes(self):
        for name in files():
            with open(os.path.join(FOLDER, name), "rb") as file:
                for token in tokenize.tokenize(file.readline):
                    if token.type == tokenize.NAME:
                        self.assertNotIn(token.string, WORDS, name)
                    if token.type == tokenize.STRING:
                        plain = token.string.replace("\\\\", "").replace("\\n", "").replace("\\\"", "")
                        self.assertNotIn("\\", plain, name)

    def test_finally(self):
        # A `finally` only puts values back, and asks only whether something is None.
        for name, node in nodes(ast.Try):
            for part in (some for line in node.finalbody for some in ast.walk(line)):
                self.assertIsInstance(part, (ast.Assign, ast.If, ast.Compare, ast.Is, ast.IsNot, ast.Name, ast.Attribute,
                                             ast.Constant, ast.expr_context), (name, node.lineno))
                if isinstance(part, ast.If):
                    self.assertIsInstance(part.test, ast.Compare, name)

    def test_errors(self):
        own = {node.name for node in TREES["errors.py"].body if isinstance(node, ast.ClassDef)}
        for name, node in nodes(ast.ExceptHandler):
            caught = node.type.elts if isinstance(node.type, ast.Tuple) else [node.type]
            for some in caught:
                self.assertIn(some.id, own, (name, node.lineno))
        for name, node in nodes(ast.Raise):
            if node.exc is not None:
                self.assertIn(node.exc.func.id, own | {"TypeError"}, (name, node.lineno))

    def test_module_level(self):
        for name, tree in TREES.items():
            names = []
            for node in tree.body:
                if isinstance(node, ast.Assign):
                    self.assertEqual(len(node.targets), 1, name)
                    self.assertIsInstance(node.targets[0], ast.Name, name)
                    names.append(node.targets[0].id)
                elif isinstance(node, (ast.FunctionDef, ast.ClassDef)):
                    names.append(node.name)
                elif isinstance(node, ast.ImportFrom):
                    names += [alias.name for alias in node.names]
                else:
                    self.assertIsInstance(node, ast.Expr, name)
            self.assertEqual(len(names), len(set(names)), name)


if __name__ == "__main__":
    unittest.main()
