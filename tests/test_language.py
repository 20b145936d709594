"""Promise 1 (no clock, chance or files), and the plainest rules of the language that the package keeps to."""

import ast
import builtins
import os
import re
import unittest
import warnings

ROOT = os.path.dirname(os.path.dirname(os.path.abspath(__file__)))
PACKAGE = os.path.join(ROOT, "pegwishes")
LIBRARY = {
    "math": {"gcd", "lcm", "isqrt", "comb", "perm", "factorial"},
    "heapq": {"heappush", "heappop", "heapify", "heapreplace", "heappushpop"},
    "itertools": {
        "product", "combinations", "permutations", "chain", "accumulate", "pairwise", "islice", "zip_longest",
    },
    "collections": {"defaultdict"},
}
BUILTINS = set(
    "len range enumerate zip min max sum abs sorted reversed int str bool list tuple dict set frozenset isinstance ord"
    " repr any all divmod pow getattr hasattr setattr iter next map super property staticmethod classmethod object"
    " Exception ValueError TypeError KeyError IndexError LookupError ZeroDivisionError ArithmeticError OverflowError"
    " RuntimeError NotImplementedError AttributeError StopIteration NotImplemented True False None".split()
)
BARRED = re.compile(
    r"\b(register|mro|elements|open|input|law|version_info|with_traceback|add_note|typing|typing_extensions|enum|Enum"
    r"|namedtuple|NamedTuple|TypedDict|abstractmethod|ABC|ABCMeta|Generic|Protocol)\b|dataclass|overload|contextmanager"
)
CAUGHT = {"KeyError", "ZeroDivisionError", "ValueError", "LookupError", "IndexError", "StopIteration"}


def sources():
    told = {}
    for name in sorted(os.listdir(PACKAGE)):
        if name != "__pycache__":
            with open(os.path.join(PACKAGE, name), encoding="ascii") as held:
                told[name] = held.read()
    return told


SOURCES = sources()
TREES = {name: ast.parse(text) for name, text in SOURCES.items()}


def nodes(kind):
    return [(name, node) for name, tree in TREES.items() for node in ast.walk(tree) if isinstance(node, kind)]


def bound_names(tree):
    """All names that a file binds, those of functions, classes and parameters too; not methods and attributes."""
    methods = [row for node in ast.walk(tree) if isinstance(node, ast.ClassDef) for row in node.body]
    told = []
    for node in ast.walk(tree):
        if isinstance(node, ast.Name) and isinstance(node.ctx, ast.Store):
            told.append(node.id)
        elif isinstance(node, ast.arg):
            told.append(node.arg)
        elif isinstance(node, (ast.FunctionDef, ast.ClassDef)) and node not in methods:
            told.append(node.name)
    return told


def imports_of(name):
    return [node for node in TREES[name].body if isinstance(node, ast.ImportFrom)]


def defined_in(name):
    told = []
    for node in TREES[name].body:
        if isinstance(node, (ast.FunctionDef, ast.ClassDef)):
            told.append(node.name)
        if isinstance(node, ast.Assign):
            told.extend(target.id for target in node.targets)
    return told


class NothingFromOutside(unittest.TestCase):
    def test_imports(self):
        for name, tree in TREES.items():
            for node in ast.walk(tree):
                self.assertNotIsInstance(node, ast.Import, name)
                if not isinstance(node, ast.ImportFrom):
                    continue
                self.assertEqual(node.level, 0)
                self.assertTrue(all(row.asname is None for row in node.names), name)
                names = {row.name for row in node.names}
                if node.module in LIBRARY:
                    self.assertLessEqual(names, LIBRARY[node.module], name)
                else:
                    file = node.module.removeprefix("pegwishes.") + ".py"
                    self.assertLessEqual(names, set(defined_in(file)), name)

    def test_only_plain_builtins(self):
        barred = set(dir(builtins)) - BUILTINS
        for name, node in nodes(ast.Name):
            self.assertNotIn(node.id, barred, name)


class Files(unittest.TestCase):
    def test_plain_files_alone(self):
        self.assertIn("__init__.py", SOURCES)
        for name in SOURCES:
            self.assertRegex(name, r"^(__init__|__main__|[a-z][a-z0-9_]*)\.py$")
            self.assertNotRegex(name, r"^(test|law_|site|conftest)")

    def test_characters(self):
        for name, text in SOURCES.items():
            self.assertIsNone(re.search(r"[^ -~\n]", text), name)

    def test_sizes(self):
        for name, text in SOURCES.items():
            rows = text.split("\n")
            self.assertLess(len(rows), 400, name)
            self.assertLessEqual(max(len(row) for row in rows), 120, name)
        for name, node in nodes(ast.FunctionDef):
            self.assertLessEqual(node.end_lineno - node.lineno + 1, 40, (name, node.name))

    def test_no_warnings(self):
        with warnings.catch_warnings():
            warnings.simplefilter("error")
            for name, text in SOURCES.items():
                compile(text, name, "exec")

    def test_no_ring_of_imports(self):
        after = {name: {row.module for row in imports_of(name)} for name in SOURCES}
        done = set(LIBRARY)
        while after:
            ready = [name for name, needed in after.items() if needed <= done]
            self.assertTrue(ready, sorted(after))
            for name in ready:
                done.add("pegwishes." + name.removesuffix(".py"))
                del after[name]


class Rows(unittest.TestCase):
    def test_module_level(self):
        for name, tree in TREES.items():
            if name == "__main__.py":
                continue
            for at, node in enumerate(tree.body):
                if isinstance(node, ast.Expr):
                    self.assertTrue(at == 0 and isinstance(node.value, ast.Constant), name)
                else:
                    self.assertIsInstance(node, (ast.ImportFrom, ast.Assign, ast.FunctionDef, ast.ClassDef), name)
            told = defined_in(name) + [row.name for node in imports_of(name) for row in node.names]
            self.assertEqual(len(told), len(set(told)), name)

    def test_statements_and_signs(self):
        for name, _ in nodes((ast.Global, ast.AsyncFunctionDef, ast.Await, ast.Div, ast.MatMult)):
            self.fail(name)
        for name, node in nodes((ast.FunctionDef, ast.ClassDef)):
            for row in node.decorator_list:
                told = ast.unparse(row)
                self.assertRegex(told, r"^(property|staticmethod|classmethod|[a-z_]+\.setter)$", name)

    def test_exponents(self):
        for name, node in nodes(ast.BinOp):
            if isinstance(node.op, ast.Pow) and isinstance(node.right, ast.Constant):
                self.assertIn(node.right.value, range(65), name)
            elif isinstance(node.op, ast.Pow):
                self.fail(name)

    def test_constants(self):
        for name, node in nodes(ast.Constant):
            self.assertNotIsInstance(node.value, (float, complex), name)
            if isinstance(node.value, str):
                self.assertNotIn(chr(37), node.value, name)

    def test_is_of_none_true_and_false_alone(self):
        for name, node in nodes(ast.Compare):
            for sign, right in zip(node.ops, node.comparators):
                if isinstance(sign, (ast.Is, ast.IsNot)) and ast.unparse(node.left) != "self":
                    self.assertIn(ast.unparse(right), ("None", "True", "False"), name)

    def test_names(self):
        given = set(dir(builtins))
        for name, tree in TREES.items():
            for word in bound_names(tree):
                self.assertNotIn(word, given, name)
                self.assertRegex(word, r"^(_?[A-Za-z][A-Za-z0-9_]*|_)$", name)
                self.assertIsNone(BARRED.search(word), name)
        for name, node in nodes(ast.Attribute):
            self.assertIsNone(BARRED.search(node.attr), name)

    def test_no_local_name_of_an_import_or_a_class(self):
        for name, tree in TREES.items():
            taken = {row.name for node in imports_of(name) for row in node.names}
            taken |= {node.name for node in tree.body if isinstance(node, ast.ClassDef)}
            local = [word for node in tree.body if not isinstance(node, ast.ClassDef) for word in bound_names(node)]
            local += [word for node in tree.body if isinstance(node, ast.ClassDef) for row in node.body for word in bound_names(row)]
            self.assertFalse(taken & set(local), name)

    def test_no_generator_expressions(self):
        # Sheets are == and have a len, so any, all, sum and their like take lists.
        for name, _ in nodes((ast.GeneratorExp, ast.Yield, ast.YieldFrom, ast.Lambda, ast.Match, ast.Set, ast.SetComp)):
            self.fail(name)

    def test_no_tables_changed(self):
        for name, tree in TREES.items():
            tables = {
                target.id for node in tree.body if isinstance(node, ast.Assign) for target in node.targets
                if isinstance(node.value, (ast.Dict, ast.List))
            }
            for node in ast.walk(tree):
                if isinstance(node, ast.Subscript) and not isinstance(node.ctx, ast.Load):
                    self.assertNotIn(ast.unparse(node.value), tables, name)
                if isinstance(node, ast.Call):
                    told = [ast.unparse(part) for part in node.args]
                    self.assertFalse(tables & set(told), name)

    def test_what_stands_in_a_finally(self):
        for name, node in nodes(ast.Try):
            for row in node.finalbody:
                self.assertRegex(ast.unparse(row), r"^self\._[a-z]+( -= 1|\.append\(\('[a-z]+', ('[a-z]+'|[a-z]+)\)\))$", name)

    def test_tables_have_functions_of_their_own_file(self):
        for name, tree in TREES.items():
            for node in tree.body:
                if isinstance(node, ast.Assign):
                    told = {part.id for part in ast.walk(node.value) if isinstance(part, ast.Name)}
                    self.assertLessEqual(told, set(defined_in(name)), name)

    def test_what_is_caught(self):
        own = set(defined_in("errors.py"))
        for name, node in nodes(ast.ExceptHandler):
            self.assertIsNotNone(node.type, name)
            kinds = node.type.elts if isinstance(node.type, ast.Tuple) else [node.type]
            self.assertLessEqual({ast.unparse(kind) for kind in kinds}, own | CAUGHT, name)


if __name__ == "__main__":
    unittest.main()
