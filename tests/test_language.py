"""Holds the package to what a look at its syntax can see of LANGUAGE.md."""

import ast
import builtins
import pathlib
import re
import unittest

FOLDER = pathlib.Path(__file__).resolve().parent.parent / "sinceply"
FILES = sorted(FOLDER.rglob("*.py"))

OWN_NAMES = """len range enumerate zip min max sum abs sorted reversed int str bool list tuple dict set frozenset
isinstance ord repr any all divmod Exception ValueError TypeError KeyError IndexError LookupError ZeroDivisionError
ArithmeticError OverflowError RuntimeError NotImplementedError AttributeError StopIteration""".split()
METHODS = """append clear copy count endswith extend find get index insert isalnum isalpha isdigit islower isspace
isupper items join keys ljust lower lstrip partition pop remove replace reverse rfind rjust rpartition rsplit rstrip
setdefault split splitlines startswith strip update upper values zfill bit_length""".split()
WORDS = """type typing typing_extensions enum Enum IntEnum StrEnum Flag IntFlag Generic Protocol ABC ABCMeta
namedtuple NamedTuple TypedDict TYPE_CHECKING abstractmethod""".split()
NODES = """Module Expr ImportFrom alias FunctionDef ClassDef arguments arg Assign AugAssign If While For Return Break
Continue Pass Raise Try ExceptHandler Call keyword Name Attribute Subscript Slice Constant List Tuple Dict Set BinOp
UnaryOp BoolOp Compare IfExp ListComp comprehension Lambda JoinedStr FormattedValue Load Store Add Sub Mult FloorDiv
Mod Pow BitAnd BitOr BitXor LShift RShift Invert Not USub UAdd And Or Eq NotEq Lt LtE Gt GtE Is IsNot In NotIn
""".split()
SPECIAL = ["__init__", "__eq__", "__repr__", "__str__", "__len__"]


def trees():
    return [(path, ast.parse(path.read_text(encoding="utf-8"))) for path in FILES]


def nodes(kind):
    return [(path, node) for path, tree in trees() for node in ast.walk(tree) if isinstance(node, kind)]


def bound_names(tree):
    names = []
    for node in ast.walk(tree):
        if isinstance(node, ast.Name) and isinstance(node.ctx, ast.Store):
            names.append(node.id)
        elif isinstance(node, (ast.FunctionDef, ast.ClassDef)):
            names.append(node.name)
        elif isinstance(node, ast.arg):
            names.append(node.arg)
        elif isinstance(node, ast.ExceptHandler) and node.name:
            names.append(node.name)
    return names


class TestLanguage(unittest.TestCase):
    def test_files(self):
        self.assertTrue(FILES)
        for path in FOLDER.rglob("*"):
            if "__pycache__" not in path.parts:
                self.assertRegex(path.name, r"^[a-z_][a-z0-9_]*\.py$")
                self.assertNotIn(path.stem, dir(builtins))

    def test_size_signs_and_words(self):
        for path in FILES:
            text = path.read_text(encoding="utf-8")
            self.assertRegex(text, r"\A[ -~\n]*\Z", path)
            self.assertLessEqual(len(text.splitlines()), 400, path)
            self.assertLessEqual(max(len(row) for row in text.splitlines()), 120, path)
            words = re.findall(r"\w+", text)
            self.assertEqual([word for word in words if word in WORDS], [], path)
            self.assertIsNone(re.search("dataclass|overload|contextmanager", text), path)
        for path, node in nodes(ast.FunctionDef):
            self.assertLessEqual(node.end_lineno - node.lineno + 1, 40, (path, node.name))

    def test_only_allowed_forms(self):
        for path, node in nodes(ast.AST):
            self.assertIn(type(node).__name__, NODES, (path, getattr(node, "lineno", None)))

    def test_constants(self):
        for path, node in nodes(ast.Constant):
            self.assertIsInstance(node.value, (int, str, type(None)), path)
            self.assertNotIn("%", str(node.value), path)

    def test_texts_by_themselves_are_docstrings_of_modules(self):
        for path, tree in trees():
            first = tree.body[0]
            for node in ast.walk(tree):
                if isinstance(node, ast.Expr) and node is not first:
                    self.assertIsInstance(node.value, ast.Call, (path, node.lineno))

    def test_top_of_modules(self):
        plain = (ast.Constant, ast.List, ast.Tuple, ast.Dict, ast.Name, ast.Load, ast.UnaryOp, ast.USub)
        for path, tree in trees():
            for node in tree.body[1:]:
                self.assertIsInstance(node, (ast.ImportFrom, ast.FunctionDef, ast.ClassDef, ast.Assign), path)
                if isinstance(node, ast.Assign):
                    for inner in ast.walk(node.value):
                        self.assertIsInstance(inner, plain, (path, node.lineno))

    def test_imports(self):
        for path, node in nodes(ast.ImportFrom):
            self.assertEqual(node.level, 0)
            self.assertTrue(node.module.startswith("sinceply."), (path, node.module))
            source = ast.parse((FOLDER / (node.module.split(".")[1] + ".py")).read_text(encoding="utf-8"))
            for name in node.names:
                self.assertIsNone(name.asname)
                self.assertIn(name.name, bound_names(ast.Module(source.body, [])), path)

    def test_no_two_files_draw_from_one_another(self):
        drawn = {path.stem: [] for path in FILES}
        for path, node in nodes(ast.ImportFrom):
            drawn[path.stem].append(node.module.split(".")[1])
        while drawn:
            free = [stem for stem in drawn if not [other for other in drawn[stem] if other in drawn]]
            self.assertTrue(free, drawn)
            for stem in free:
                del drawn[stem]

    def test_names(self):
        for path, tree in trees():
            imported = [name.name for node in tree.body if isinstance(node, ast.ImportFrom) for name in node.names]
            bound = bound_names(tree)
            for name in bound:
                self.assertTrue(name in SPECIAL or re.match(r"[A-Za-z][A-Za-z0-9_]*\Z", name), (path, name))
                self.assertNotIn(name, dir(builtins), path)
                self.assertNotIn(name, imported, path)
            for node in ast.walk(tree):
                if isinstance(node, ast.Name):
                    self.assertIn(node.id, bound + imported + OWN_NAMES, (path, node.lineno))

    def test_attributes(self):
        own = [node.name for path, node in nodes(ast.FunctionDef)]
        own += [node.attr for path, node in nodes(ast.Attribute) if isinstance(node.ctx, ast.Store)]
        for path, node in nodes(ast.Attribute):
            self.assertIn(node.attr, own + METHODS, (path, node.lineno))

    def test_no_name_is_a_method_and_a_value(self):
        bodies = [node for path, tree in nodes(ast.ClassDef) for node in tree.body]
        methods = [node.name for node in bodies if isinstance(node, ast.FunctionDef)]
        values = [node.attr for path, node in nodes(ast.Attribute) if isinstance(node.ctx, ast.Store)]
        self.assertEqual(set(methods) & set(values), set())

    def test_functions_and_assignments(self):
        for path, node in nodes((ast.FunctionDef, ast.ClassDef)):
            self.assertEqual(node.decorator_list, [], (path, node.name))
        for path, node in nodes(ast.arguments):
            self.assertEqual([node.vararg, node.kwarg, node.kwonlyargs, node.posonlyargs], [None, None, [], []], path)
        for path, node in nodes(ast.Assign):
            self.assertEqual(len(node.targets), 1, (path, node.lineno))
        for path, node in nodes((ast.For, ast.While)):
            self.assertEqual(node.orelse, [], (path, node.lineno))

    def test_comprehensions(self):
        for path, node in nodes(ast.ListComp):
            self.assertEqual(len(node.generators), 1, (path, node.lineno))
            self.assertLessEqual(len(node.generators[0].ifs), 1, (path, node.lineno))

    def test_is_stands_beside_none_and_truths(self):
        for path, node in nodes(ast.Compare):
            if any(isinstance(sign, (ast.Is, ast.IsNot)) for sign in node.ops):
                beside = getattr(node.comparators[0], "value", 0)
                self.assertTrue(beside is None or beside is True or beside is False, (path, node.lineno))

    def test_powers_have_written_exponents(self):
        for path, node in nodes(ast.BinOp):
            if isinstance(node.op, ast.Pow):
                self.assertIsInstance(node.right, ast.Constant, (path, node.lineno))
                self.assertIn(node.right.value, range(65), (path, node.lineno))
