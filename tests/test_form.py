"""The form of the package: those rules of the language subset that can be read off its files."""

import ast
import builtins
import re
import unittest
import warnings
from pathlib import Path

PACKAGE = Path(__file__).resolve().parent.parent / "retinue"
SOURCES = {path.name: path.read_text(encoding="ascii") for path in sorted(PACKAGE.glob("*.py"))}
TREES = {name: ast.parse(text) for name, text in SOURCES.items()}

LIBRARY = {
    "heapq": {"heappush", "heappop", "heapify", "heapreplace", "heappushpop"},
    "math": {"gcd", "lcm", "isqrt", "comb", "perm", "factorial"},
    "itertools": {"chain", "accumulate", "pairwise", "islice", "zip_longest"},
    "collections": {"defaultdict", "deque"},
}
BUILTINS = set(
    "len range enumerate zip min max sum abs sorted reversed int str bool bytes list tuple dict set "
    "isinstance ord repr any all divmod pow iter next map super Exception ValueError TypeError KeyError "
    "IndexError LookupError ZeroDivisionError ArithmeticError OverflowError RuntimeError "
    "NotImplementedError AttributeError StopIteration NotImplemented".split())
METHODS = set("__init__ __eq__ __repr__ __str__ __len__ __iter__ __call__ __add__ __mul__".split())
# Generator expressions: beside an __eq__, most functions that take them must be given a list instead.
NOT_USED = {ast.AsyncFunctionDef, ast.Div, ast.GeneratorExp, ast.Global, ast.Import}
WORDS = re.compile(r"\b(type|typing|enum|Enum|namedtuple|dataclass|register|mro|elements|law|eval|exec|open|input)\b")


def nodes(kinds):
    """Yield (file, node) for all nodes of these kinds in the package."""
    for name, tree in TREES.items():
        for node in ast.walk(tree):
            if isinstance(node, kinds):
                yield name, node


def bound_in(function):
    """The names that a function binds: parameters, those of lambdas too, and what it assigns."""
    names = {node.arg for node in ast.walk(function) if isinstance(node, ast.arg)}
    return names | {node.id for node in ast.walk(function)
                    if isinstance(node, ast.Name) and isinstance(node.ctx, ast.Store)}


class Files(unittest.TestCase):
    def test_the_folder_holds_python_files_only(self):
        names = {path.name for path in PACKAGE.iterdir()} - {"__pycache__"}
        self.assertEqual(names, set(SOURCES))
        self.assertIn("__init__.py", names)

    def test_sizes_and_characters(self):
        for name, text in SOURCES.items():
            with self.subTest(name):
                self.assertLessEqual(text.count("\n"), 399)
                self.assertLessEqual(max(map(len, text.split("\n"))), 120)
                self.assertTrue(all(sign == "\n" or " " <= sign <= "~" for sign in text))
        for name, node in nodes((ast.FunctionDef,)):
            self.assertLessEqual(node.end_lineno - node.lineno + 1, 40, (name, node.name))

    def test_python_gives_no_warning(self):
        for name, text in SOURCES.items():
            with warnings.catch_warnings():
                warnings.simplefilter("error")
                compile(text, name, "exec")


class Modules(unittest.TestCase):
    def test_module_level(self):
        for name, tree in TREES.items():
            self.assertIsNotNone(ast.get_docstring(tree), name)
            kinds = [node.__class__ for node in tree.body[1:]]
            self.assertTrue(set(kinds) <= {ast.ImportFrom, ast.FunctionDef, ast.ClassDef, ast.Assign}, name)
            self.assertNotIn(ast.ImportFrom, kinds[kinds.count(ast.ImportFrom):], name)

    def test_imports_name_the_file_that_defines_and_do_not_go_round(self):
        needs = {name: [] for name in SOURCES}
        for name, node in nodes((ast.ImportFrom,)):
            self.assertEqual(node.level, 0)
            if node.module in LIBRARY:
                self.assertTrue({alias.name for alias in node.names} <= LIBRARY[node.module])
                continue
            package, _, file = node.module.partition(".")
            self.assertEqual(package, "retinue")
            needs[name].append(file + ".py")
            own = {part.name for part in TREES[file + ".py"].body if isinstance(part, (ast.FunctionDef, ast.ClassDef))}
            self.assertTrue({alias.name for alias in node.names} <= own, (name, file))
            self.assertFalse([alias for alias in node.names if alias.asname], name)
        while needs:
            free = [name for name in needs if not set(needs[name]) & set(needs)]
            self.assertTrue(free, "these import each other: {}".format(sorted(needs)))
            needs = {name: needs[name] for name in needs if name not in free}

    def test_every_import_is_used(self):
        for name, tree in TREES.items():
            imported = {alias.name for node in ast.walk(tree) if isinstance(node, ast.ImportFrom)
                        for alias in node.names}
            used = {node.id for node in ast.walk(tree) if isinstance(node, ast.Name)}
            self.assertEqual(imported - used, set(), name)


class Names(unittest.TestCase):
    def test_only_the_allowed_builtins(self):
        for name, node in nodes((ast.Name,)):
            if hasattr(builtins, node.id):
                self.assertIn(node.id, BUILTINS, (name, node.lineno))

    def test_bound_names_hide_nothing(self):
        for name, tree in TREES.items():
            barred = {alias.name for node in ast.walk(tree) if isinstance(node, ast.ImportFrom)
                      for alias in node.names}
            barred |= {node.name for node in ast.walk(tree) if isinstance(node, ast.ClassDef)}
            for node in ast.walk(tree):
                if isinstance(node, ast.FunctionDef):
                    bound = bound_in(node)
                    self.assertEqual(bound & barred, set(), (name, node.name))
                    self.assertEqual([word for word in bound if hasattr(builtins, word)], [], (name, node.name))

    def test_names_are_plain(self):
        for name, node in nodes((ast.FunctionDef,)):
            if node.name.startswith("__"):
                self.assertIn(node.name, METHODS, (name, node.lineno))
            else:
                self.assertRegex(node.name, r"^_?[a-z][a-z0-9_]*$")
                self.assertFalse(hasattr(builtins, node.name), (name, node.name))
            self.assertIsNone(node.returns)
            self.assertEqual(node.decorator_list, [])

    def test_words_that_are_not_used(self):
        for name, node in nodes((ast.Name, ast.Attribute, ast.arg, ast.FunctionDef, ast.ClassDef)):
            words = [getattr(node, field, "") for field in ("id", "attr", "arg", "name")]
            self.assertIsNone(WORDS.search(" ".join(words)), (name, node.lineno))


class Statements(unittest.TestCase):
    def test_what_the_package_does_without(self):
        for name, node in nodes(tuple(NOT_USED)):
            self.fail((name, node.lineno, node.__class__.__name__))

    def test_literals(self):
        for name, node in nodes((ast.Constant,)):
            self.assertNotIsInstance(node.value, (float, complex, bytes), (name, node.lineno))
            if isinstance(node.value, str):
                self.assertNotIn("%", node.value, (name, node.lineno))

    def test_is_stands_beside_none_true_or_false(self):
        for name, node in nodes((ast.Compare,)):
            for sign, right in zip(node.ops, node.comparators):
                if isinstance(sign, (ast.Is, ast.IsNot)):
                    self.assertTrue(isinstance(right, ast.Constant) and right.value in (None, True, False), name)

    def test_sets_are_not_kept(self):
        parents = {child: node for _, node in nodes((ast.AST,)) for child in ast.iter_child_nodes(node)}
        for name, node in nodes((ast.Set, ast.SetComp, ast.Call)):
            if isinstance(node, ast.Call) and not (isinstance(node.func, ast.Name) and node.func.id == "set"):
                continue
            above = parents[node]
            self.assertIsInstance(above, ast.Call, (name, node.lineno))
            self.assertIn(above.func.id, ("sorted", "len"), (name, node.lineno))

    def test_raise_creates_its_error(self):
        for name, node in nodes((ast.Raise,)):
            self.assertIsInstance(node.exc, ast.Call, (name, node.lineno))
            self.assertIsInstance(node.exc.func, ast.Name, (name, node.lineno))

    def test_methods_of_builtin_values_have_no_keywords(self):
        for name, node in nodes((ast.Call,)):
            if isinstance(node.func, ast.Attribute):
                self.assertEqual(node.keywords, [], (name, node.lineno))

    def test_lists_are_sorted_by_sorted(self):
        for name, node in nodes((ast.Attribute,)):
            self.assertNotEqual(node.attr, "sort", (name, node.lineno))

    def test_one_statement_iterates_an_own_object(self):
        for name, node in nodes((ast.FunctionDef,)):
            if node.name == "__iter__":
                self.assertEqual(len(node.body), 1, name)
                self.assertRegex(ast.unparse(node.body[0]), r"^return iter\(self\.[a-z_]+\)$")
