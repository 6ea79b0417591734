"""The rules of the language that a test can ask for at once."""

import ast
import builtins
import io
import os
import tokenize
import unittest

TOP = os.path.dirname(os.path.dirname(os.path.abspath(__file__)))
PACKAGE = os.path.join(TOP, "purepowers")
LIBRARY = {"math": ("gcd", "lcm", "isqrt", "comb", "perm", "factorial")}
BUILTINS = (
    "len range enumerate zip min max sum abs sorted reversed int str bool list tuple dict set isinstance ord repr any all divmod "
    "Exception ValueError TypeError KeyError IndexError LookupError ZeroDivisionError ArithmeticError OverflowError RuntimeError "
    "NotImplementedError AttributeError property staticmethod"
).split()
METHODS = (
    "append clear copy count endswith extend find get index insert isalnum isalpha isdigit islower isspace isupper items join keys "
    "ljust lower lstrip partition pop remove replace reverse rfind rjust rpartition rsplit rstrip setdefault split splitlines "
    "startswith strip update upper values zfill bit_length removeprefix removesuffix isascii isdecimal add discard"
).split()
UNUSED = (
    "register mro elements open input law version_info with_traceback add_note attrgetter breakpoint builtins compile copyright "
    "credits delattr dir eval exec exit gc getattr globals hasattr help id importlib license locals methodcaller os quit setattr "
    "super type vars sys __name__ __class__ chr next iter pow frozenset bytes"
).split()
BARRED = (
    "type typing typing_extensions enum Enum IntEnum StrEnum Flag Generic Protocol ABC ABCMeta namedtuple NamedTuple TypedDict "
    "TYPE_CHECKING abstractmethod _wall _WallAttr"
).split()
DUNDERS = (
    "__init__ __eq__ __repr__ __str__ __len__ __enter__ __exit__ __iter__ __contains__ __getitem__ __setitem__"
).split()
STATEMENTS = (
    ast.Expr, ast.Assign, ast.If, ast.While, ast.For, ast.Return, ast.Break, ast.Continue, ast.Pass, ast.Raise, ast.Assert, ast.Delete,
    ast.With, ast.Try, ast.FunctionDef, ast.ClassDef, ast.ImportFrom,
)


def sources():
    """The pairs of file name and text of the package."""
    found = []
    for name in sorted(os.listdir(PACKAGE)):
        if name.endswith(".py"):
            with open(os.path.join(PACKAGE, name), encoding="utf-8") as file:
                found.append((name, file.read()))
    return found


def nodes(kind):
    """The pairs of file name and node, for each node of this kind in the package."""
    return [(name, node) for name, text in sources() for node in ast.walk(ast.parse(text)) if isinstance(node, kind)]


def docstrings(tree):
    found = [node.body[0].value for node in ast.walk(tree)
             if isinstance(node, (ast.Module, ast.ClassDef, ast.FunctionDef)) and ast.get_docstring(node) is not None]
    return found


class Files(unittest.TestCase):
    def test_files(self):
        names = [name for name in os.listdir(PACKAGE) if name != "__pycache__"]
        self.assertIn("__init__.py", names)
        for name in names:
            self.assertRegex(name, r"\A[a-z0-9_]+\.py\Z")
            self.assertFalse(name.startswith("test"))

    def test_sizes(self):
        for name, text in sources():
            with self.subTest(name):
                lines = text.splitlines()
                self.assertLessEqual(len(lines), 399)
                self.assertLessEqual(max([len(line) for line in lines], default=0), 120)
        for name, node in nodes(ast.FunctionDef):
            self.assertLessEqual(node.end_lineno - node.lineno + 1, 40, (name, node.name))

    def test_characters(self):
        for name, text in sources():
            with self.subTest(name):
                self.assertEqual([char for char in text if char != "\n" and not " " <= char <= "~"], [])

    def test_imports(self):
        self.assertEqual(nodes(ast.Import), [])
        told = {name[:-3]: text for name, text in sources()}
        for name, node in nodes(ast.ImportFrom):
            with self.subTest(name, module=node.module):
                self.assertEqual(node.level, 0)
                if node.module in LIBRARY:
                    self.assertTrue({alias.name for alias in node.names} <= set(LIBRARY[node.module]))
                else:
                    top, file = node.module.split(".")
                    self.assertEqual(top, "purepowers")
                    body = ast.parse(told[file]).body
                    defined = {entry.name for entry in body if isinstance(entry, (ast.FunctionDef, ast.ClassDef))}
                    defined |= {entry.targets[0].id for entry in body if isinstance(entry, ast.Assign)}
                    self.assertTrue({alias.name for alias in node.names} <= defined, name)
                self.assertEqual([alias.name for alias in node.names if alias.asname or alias.name.startswith("_")], [])

    def test_no_import_in_a_circle(self):
        follow = {}
        for name, node in nodes(ast.ImportFrom):
            if node.module not in LIBRARY:
                follow.setdefault(name[:-3], []).append(node.module.split(".")[1])
        done = []
        while len(done) < len(sources()):
            ready = [name[:-3] for name, _ in sources() if name[:-3] not in done and set(follow.get(name[:-3], [])) <= set(done)]
            self.assertNotEqual(ready, [])
            done = done + ready


class Words(unittest.TestCase):
    def test_statements(self):
        self.assertEqual([(name, node) for name, node in nodes(ast.stmt) if not isinstance(node, STATEMENTS)], [])
        for name, text in sources():
            for node in ast.parse(text).body:
                self.assertIsInstance(node, (ast.Expr, ast.Assign, ast.FunctionDef, ast.ClassDef, ast.ImportFrom), name)

    def test_expressions(self):
        unused = (ast.Lambda, ast.Set, ast.GeneratorExp, ast.NamedExpr, ast.Yield, ast.YieldFrom, ast.Await, ast.Div, ast.MatMult)
        self.assertEqual(nodes(unused), [])
        for name, node in nodes(ast.Constant):
            self.assertNotIsInstance(node.value, (float, complex, bytes), name)
        for name, node in nodes(ast.BinOp):
            if isinstance(node.op, ast.Pow):
                self.assertTrue(isinstance(node.right, ast.Constant) and 0 <= node.right.value <= 64, (name, node.lineno))
        for name, node in nodes(ast.Compare):
            for op, other in zip(node.ops, node.comparators):
                if isinstance(op, (ast.Is, ast.IsNot)):
                    is_constant = isinstance(other, ast.Constant) and other.value in (None, True, False)
                    self.assertTrue(is_constant or ast.unparse(node) == "self is other", (name, node.lineno))

    def test_strings(self):
        for name, text in sources():
            tree = ast.parse(text)
            told = docstrings(tree)
            for node in ast.walk(tree):
                if isinstance(node, ast.Constant) and isinstance(node.value, str):
                    self.assertNotIn("%", node.value, name)
                    if node not in told:
                        self.assertEqual([word for word in BARRED if word in node.value], [], name)
            for token in tokenize.generate_tokens(io.StringIO(text).readline):
                if token.type == tokenize.NAME:
                    self.assertNotIn(token.string, BARRED, (name, token.start))
            for word in ("dataclass", "overload", "contextmanager", "(type)", "Meta", "metaclass="):
                self.assertNotIn(word, text, name)

    def test_builtins(self):
        for name, node in nodes(ast.Name):
            if node.id in dir(builtins):
                self.assertIn(node.id, BUILTINS, (name, node.lineno))
                self.assertIsInstance(node.ctx, ast.Load, (name, node.lineno))
            self.assertNotIn(node.id, UNUSED, (name, node.lineno))
            self.assertFalse(node.id.startswith("__"), (name, node.lineno))
        for name, node in nodes((ast.FunctionDef, ast.ClassDef)):
            self.assertNotIn(node.name, UNUSED + dir(builtins), name)
            if node.name.startswith("__"):
                self.assertIn(node.name, DUNDERS, name)
        for name, node in nodes(ast.arg):
            self.assertNotIn(node.arg, UNUSED + dir(builtins), name)

    def test_names_of_one_file(self):
        for name, text in sources():
            tree = ast.parse(text)
            bound = [alias.name for node in tree.body if isinstance(node, ast.ImportFrom) for alias in node.names]
            bound += [node.name for node in tree.body if isinstance(node, (ast.FunctionDef, ast.ClassDef))]
            bound += [node.targets[0].id for node in tree.body if isinstance(node, ast.Assign)]
            self.assertEqual(len(bound), len(set(bound)), name)
            inner = [node for outer in tree.body if isinstance(outer, (ast.FunctionDef, ast.ClassDef)) for node in ast.walk(outer)]
            for node in inner:
                if isinstance(node, ast.arg):
                    self.assertNotIn(node.arg, bound, (name, node.lineno))
                if isinstance(node, ast.Name) and isinstance(node.ctx, ast.Store):
                    self.assertNotIn(node.id, bound, (name, node.lineno))

    def test_called_methods(self):
        own = {node.name for _, outer in nodes(ast.ClassDef) for node in outer.body if isinstance(node, ast.FunctionDef)}
        for name, node in nodes(ast.Call):
            if isinstance(node.func, ast.Attribute):
                self.assertIn(node.func.attr, own | set(METHODS), (name, node.lineno))


class Classes(unittest.TestCase):
    @staticmethod
    def decorated(word):
        return {node.name for _, node in nodes(ast.FunctionDef) if word in [ast.unparse(one) for one in node.decorator_list]}

    def test_decorators(self):
        for name, node in nodes(ast.FunctionDef):
            self.assertTrue({ast.unparse(one) for one in node.decorator_list} <= {"property", "staticmethod"}, (name, node.name))

    def test_nothing_is_read_off_a_class(self):
        classes = {node.name for _, node in nodes(ast.ClassDef)} | set(dir(builtins))
        for name, node in nodes(ast.Attribute):
            self.assertFalse(isinstance(node.value, ast.Name) and node.value.id in classes, (name, node.lineno))

    def test_names_of_properties(self):
        properties = self.decorated("property")
        plain = {node.name for _, node in nodes(ast.FunctionDef)} - properties
        stored = {node.attr for _, node in nodes(ast.Attribute) if isinstance(node.ctx, ast.Store)}
        self.assertEqual(properties & stored, set())
        methods = {node.name for _, outer in nodes(ast.ClassDef) for node in outer.body if isinstance(node, ast.FunctionDef)} & plain
        self.assertEqual(properties & methods, set())
        self.assertEqual(methods & stored, set())

    def test_errors(self):
        errors = [node.name for name, node in nodes(ast.ClassDef) if name == "errors.py"]
        for name, node in nodes(ast.Raise):
            self.assertIn(node.exc.func.id, errors + ["TypeError"], (name, node.lineno))
            self.assertIsNone(node.cause)
        for name, node in nodes(ast.ExceptHandler):
            told = node.type.elts if isinstance(node.type, ast.Tuple) else [node.type]
            self.assertTrue({one.id for one in told} <= set(errors), (name, node.lineno))
            self.assertIsNone(node.name)


if __name__ == "__main__":
    unittest.main()
