"""The rules of ../shared/LANGUAGE.md that can be read off the package's files at once."""

import ast
import builtins
import os
import re
import unittest

FOLDER = os.path.join(os.path.dirname(os.path.dirname(os.path.abspath(__file__))), "weighdoors")

CALLED = set("""len range enumerate zip min max sum abs sorted reversed int str bool list tuple dict set isinstance
    ord repr any all divmod""".split())
ERRORS = set("""Exception ValueError TypeError KeyError IndexError LookupError ZeroDivisionError ArithmeticError
    OverflowError RuntimeError NotImplementedError""".split())
METHODS = set("""append clear copy count endswith extend find get index insert isalnum isalpha isdigit islower isspace
    isupper items join keys ljust lower lstrip partition pop remove replace reverse rfind rjust rpartition rsplit
    rstrip setdefault split splitlines startswith strip update upper values zfill bit_length add discard""".split())
DOUBLE = {"__init__", "__eq__", "__len__"}
BARRED = re.compile(r"\b(type|typing|enum|Enum|Flag|Generic|Protocol|ABC|namedtuple|register|mro|elements|input|law"
                    r"|_wall|_WallAttr)\b")
LIBRARY = {"heapq", "math", "itertools", "collections"}
NODES = (
    ast.Module, ast.ImportFrom, ast.alias, ast.FunctionDef, ast.ClassDef, ast.arguments, ast.arg, ast.Lambda,
    ast.Assign, ast.AugAssign, ast.If, ast.While, ast.For, ast.Return, ast.Break, ast.Continue, ast.Pass, ast.Raise,
    ast.Assert, ast.Delete, ast.Try, ast.ExceptHandler, ast.Expr, ast.Constant, ast.Name, ast.Attribute,
    ast.Subscript, ast.Slice, ast.Call, ast.keyword, ast.Starred, ast.BinOp, ast.BoolOp, ast.UnaryOp, ast.Compare,
    ast.IfExp, ast.List, ast.Tuple, ast.Dict, ast.Set, ast.ListComp, ast.DictComp, ast.SetComp, ast.comprehension,
    ast.JoinedStr, ast.FormattedValue, ast.expr_context, ast.operator, ast.unaryop, ast.boolop, ast.cmpop,
)


def files():
    """The package's files: name without .py, text."""
    for name in sorted(os.listdir(FOLDER)):
        if name.endswith(".py"):
            with open(os.path.join(FOLDER, name), encoding="utf-8", newline="") as file:
                yield name[:-3], file.read()


TEXTS = dict(files())
TREES = {name: ast.parse(text) for name, text in TEXTS.items()}


def bound(tree):
    """The names that a file binds at module level, a name as often as it is bound."""
    for part in tree.body:
        if isinstance(part, (ast.FunctionDef, ast.ClassDef)):
            yield part.name
        elif isinstance(part, ast.Assign):
            yield from [target.id for target in part.targets]
        elif isinstance(part, ast.ImportFrom):
            yield from [alias.name for alias in part.names]


def every(kind):
    """Each node of a kind, with the name of its file."""
    for name, tree in TREES.items():
        for node in ast.walk(tree):
            if isinstance(node, kind):
                yield name, node


class LanguageTest(unittest.TestCase):
    def test_files_and_their_signs(self):
        others = [name for name in os.listdir(FOLDER) if not name.endswith(".py")]
        self.assertIn(others, ([], ["__pycache__"]))
        for name, text in TEXTS.items():
            self.assertRegex(name, r"^[a-z][a-z0-9_]*$|^__init__$")
            self.assertNotIn(name, dir(builtins))
            self.assertRegex(text, r"\A[ -~\n]*\Z", name)
            self.assertTrue(text.endswith("\n"), name)

    def test_sizes(self):
        for name, text in TEXTS.items():
            rows = text.split("\n")
            self.assertLessEqual(len(rows), 399, name)
            self.assertLessEqual(max(map(len, rows)), 120, name)
        for name, node in every(ast.FunctionDef):
            self.assertLessEqual(node.end_lineno - node.lineno + 1, 40, (name, node.name))

    def test_only_told_parts_of_python(self):
        for name, node in every(ast.AST):
            self.assertIsInstance(node, NODES, (name, getattr(node, "lineno", None)))
            self.assertNotIsInstance(node, (ast.Div, ast.MatMult), name)

    def test_imports(self):
        follows = {name: set() for name in TREES}
        for name, node in every(ast.ImportFrom):
            self.assertEqual(node.level, 0)
            if node.module in LIBRARY:
                continue
            package, file = node.module.split(".")
            self.assertEqual(package, "weighdoors")
            own = [part for part in TREES[file].body if not isinstance(part, ast.ImportFrom)]
            follows[name].add(file)
            for alias in node.names:
                self.assertIsNone(alias.asname)
                self.assertIn(alias.name, list(bound(ast.Module(own, []))), (name, alias.name))
                used = [part.id for part in ast.walk(TREES[name]) if isinstance(part, ast.Name)]
                self.assertIn(alias.name, used, name)
        while follows:
            free = [name for name in follows if not follows[name] & set(follows)]
            self.assertNotEqual(free, [], "files that import from each other")
            follows = {name: follows[name] for name in follows if name not in free}

    def test_module_level(self):
        for name, tree in TREES.items():
            self.assertIsNotNone(ast.get_docstring(tree), name)
            told = list(bound(tree))
            self.assertEqual(len(told), len(set(told)), name)
            for part in tree.body[1:]:
                self.assertIsInstance(part, (ast.ImportFrom, ast.FunctionDef, ast.ClassDef, ast.Assign), name)
                if isinstance(part, ast.Assign):
                    self.assertEqual(len(part.targets), 1)
                    ast.literal_eval(part.value)

    def test_definitions(self):
        for name, node in every((ast.FunctionDef, ast.ClassDef)):
            self.assertEqual(node.decorator_list, [], name)
            self.assertTrue(ast.get_docstring(node) or node.name in DOUBLE, (name, node.name))
            if node.name.startswith("__"):
                self.assertIn(node.name, DOUBLE)

    def test_names(self):
        for name, tree in TREES.items():
            nodes = list(ast.walk(tree))
            imported = [alias.name for node in nodes if isinstance(node, ast.ImportFrom) for alias in node.names]
            classes = [node.name for node in nodes if isinstance(node, ast.ClassDef)]
            for node in nodes:
                own = None
                if isinstance(node, ast.Name) and isinstance(node.ctx, ast.Store):
                    own = node.id
                elif isinstance(node, ast.arg):
                    own = node.arg
                elif isinstance(node, ast.ExceptHandler):
                    own = node.name
                if own is not None:
                    self.assertNotIn(own, imported + classes, name)
                    self.assertNotIn(own, dir(builtins), name)

    def test_builtins_and_methods(self):
        parts = [part for _, node in every(ast.ClassDef) for part in node.body]
        methods = {part.name for part in parts if isinstance(part, ast.FunctionDef)}
        for name, tree in TREES.items():
            nodes = list(ast.walk(tree))
            stored = {node.id for node in nodes if isinstance(node, ast.Name) and isinstance(node.ctx, ast.Store)}
            stored |= {node.arg for node in nodes if isinstance(node, ast.arg)} | set(bound(tree))
            stored |= {node.name for node in nodes if isinstance(node, ast.ExceptHandler)}
            for node in nodes:
                if isinstance(node, ast.Name) and node.id not in stored:
                    self.assertIn(node.id, CALLED | ERRORS, (name, node.lineno))
                if isinstance(node, ast.Call) and isinstance(node.func, ast.Attribute):
                    self.assertIn(node.func.attr, METHODS | methods, (name, node.lineno))

    def test_values(self):
        for name, node in every(ast.Constant):
            self.assertNotIsInstance(node.value, (float, complex, bytes), name)
        for name, node in every(ast.Compare):
            for sign, other in zip(node.ops, node.comparators):
                if isinstance(sign, (ast.Is, ast.IsNot)):
                    self.assertTrue(isinstance(other, ast.Constant) and other.value in (None, True, False), name)

    def test_words(self):
        for name, text in TEXTS.items():
            self.assertNotIn("%", re.sub(r" % ", "", text), name)
            self.assertNotIn("\\", text.replace("\\n", ""), name)
            self.assertIsNone(BARRED.search(text), name)

    def test_handlers_name_own_errors(self):
        own = {node.name for name, node in every(ast.ClassDef) if name == "errors"}
        for name, node in every(ast.ExceptHandler):
            self.assertIsInstance(node.type, ast.Name, name)
            self.assertIn(node.type.id, own | {"KeyError"}, name)


if __name__ == "__main__":
    unittest.main()
