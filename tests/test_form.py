"""The form of the package's files, as far as a short test can see it; and no clock, chance or files (point 1)."""
import ast
import pathlib
import re
import unittest

PACKAGE = pathlib.Path(__file__).resolve().parent.parent / "shellstair"
WORDS_LEFT_OUT = re.compile(
    r"\b(type|typing|typing_extensions|enum|Enum|IntEnum|StrEnum|Flag|IntFlag|Generic|Protocol|ABC|ABCMeta"
    r"|namedtuple|NamedTuple|TypedDict|TYPE_CHECKING|abstractmethod)\b|dataclass|overload|contextmanager"
)
CALLED_OF_PYTHON = set(
    "len range enumerate zip min max sum abs sorted reversed int str bool list tuple dict set frozenset isinstance"
    " ord repr any all divmod".split()
)
METHODS_OF_PYTHON = set(
    "append clear copy count endswith extend find get index insert isalnum isalpha isdigit islower isspace isupper"
    " items join keys ljust lower lstrip partition pop remove replace reverse rfind rjust rpartition rsplit rstrip"
    " setdefault split splitlines startswith strip update upper values zfill bit_length".split()
)
OWN_ATTRIBUTES = {"feed", "left", "kept"}
BASES_OF_PYTHON = {"ValueError", "Exception"}
STATEMENTS = (
    ast.Assign, ast.AugAssign, ast.If, ast.While, ast.For, ast.Return, ast.Break, ast.Continue, ast.Pass, ast.Raise,
    ast.Try, ast.Expr, ast.FunctionDef, ast.ClassDef, ast.ImportFrom,
)


def package_files():
    return sorted(path for path in PACKAGE.rglob("*") if path.is_file() and "__pycache__" not in path.parts)


def trees():
    return [(path, ast.parse(path.read_text(encoding="ascii"))) for path in package_files()]


def nodes(kind):
    return [(path, node) for path, tree in trees() for node in ast.walk(tree) if isinstance(node, kind)]


class Form(unittest.TestCase):
    def test_files(self):
        names = [path.name for path in package_files()]
        for name in ("__init__.py", "errors.py", "moves.py", "rows.py", "stair.py", "texts.py"):
            self.assertIn(name, names)
        for name in names:
            self.assertRegex(name, r"^[a-z0-9_]+\.py$")

    def test_signs_and_sizes(self):
        for path in package_files():
            text = path.read_bytes()
            self.assertTrue(all(sign == 10 or 32 <= sign <= 126 for sign in text), path)
            rows = text.decode("ascii").split("\n")
            self.assertLessEqual(len(rows), 400, path)
            self.assertLessEqual(max(len(row) for row in rows), 120, path)
        for path, node in nodes(ast.FunctionDef):
            self.assertLessEqual(node.end_lineno - node.lineno + 1, 40, (path, node.name))

    def test_words_left_out(self):
        for path in package_files():
            self.assertIsNone(WORDS_LEFT_OUT.search(path.read_text(encoding="ascii")), path)

    def test_imports_are_the_packages_own(self):
        self.assertEqual(nodes(ast.Import), [])
        for path, node in nodes(ast.ImportFrom):
            self.assertEqual(node.level, 0, path)
            self.assertTrue(node.module.startswith("shellstair."), (path, node.module))
            self.assertNotIn("*", [name.name for name in node.names], path)

    def test_statements(self):
        for path, node in nodes(ast.stmt):
            self.assertIsInstance(node, STATEMENTS, (path, node.lineno))
        for path, node in nodes((ast.For, ast.While)):
            self.assertEqual(node.orelse, [], (path, node.lineno))
        for path, node in nodes(ast.Assign):
            self.assertEqual(len(node.targets), 1, (path, node.lineno))

    def test_values(self):
        left_out = (
            ast.Div, ast.SetComp, ast.DictComp, ast.GeneratorExp, ast.NamedExpr, ast.Starred, ast.Yield,
            ast.YieldFrom, ast.Await,
        )
        for path, node in nodes(left_out):
            self.fail((path, node))
        for path, node in nodes(ast.Constant):
            self.assertNotIsInstance(node.value, (float, complex, bytes), (path, node.lineno))

    def test_texts_and_powers(self):
        for path, node in nodes(ast.Constant):
            if isinstance(node.value, str):
                self.assertNotIn("%", node.value, (path, node.lineno))
        for path, node in nodes(ast.BinOp):
            if isinstance(node.op, ast.Pow):
                self.assertIsInstance(node.right, ast.Constant, (path, node.lineno))
                self.assertIn(node.right.value, range(65), (path, node.lineno))

    def test_a_call_alone_stands_by_itself(self):
        docstrings = [tree.body[0] for path, tree in trees()]
        for path, node in nodes(ast.Expr):
            if ast.dump(node) not in [ast.dump(docstring) for docstring in docstrings]:
                self.assertIsInstance(node.value, ast.Call, (path, node.lineno))

    def test_parameters(self):
        for path, node in nodes(ast.arguments):
            self.assertEqual((node.vararg, node.kwarg, node.kwonlyargs, node.posonlyargs), (None, None, [], []), path)
            for default in node.defaults:
                self.assertIsInstance(default, ast.Constant, path)
        for path, node in nodes((ast.FunctionDef, ast.ClassDef)):
            self.assertEqual(node.decorator_list, [], (path, node.name))

    def test_attributes(self):
        for path, node in nodes(ast.Attribute):
            self.assertIn(node.attr, METHODS_OF_PYTHON | OWN_ATTRIBUTES, (path, node.lineno))

    def test_is_stands_beside_none_and_truths_alone(self):
        for path, node in nodes(ast.Compare):
            for sign, right in zip(node.ops, node.comparators):
                if isinstance(sign, (ast.Is, ast.IsNot)):
                    self.assertIn(getattr(right, "value", 0), (None, True, False), (path, node.lineno))

    def test_names_are_plain_and_known(self):
        for path, tree in trees():
            names = [node for node in ast.walk(tree) if isinstance(node, ast.Name)]
            bound = {node.id for node in names if isinstance(node.ctx, ast.Store)}
            bound |= {node.arg for node in ast.walk(tree) if isinstance(node, ast.arg)}
            bound |= {node.name for node in ast.walk(tree) if isinstance(node, (ast.FunctionDef, ast.ClassDef))}
            for node in ast.walk(tree):
                if isinstance(node, ast.ImportFrom):
                    bound |= {name.name for name in node.names}
            for name in bound - {"__init__"}:
                self.assertRegex(name, r"^[A-Za-z][A-Za-z0-9_]*$", path)
            used = {node.id for node in names}
            self.assertEqual(used - bound - CALLED_OF_PYTHON - BASES_OF_PYTHON, set(), path)


if __name__ == "__main__":
    unittest.main()
