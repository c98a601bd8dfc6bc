"""Holds the package's files to those rules of LANGUAGE.md that a walk over them can see."""

import ast
import builtins
import pathlib
import re
import unittest

PACKAGE = pathlib.Path(__file__).resolve().parent.parent / "besideseats"

NODES = set("""
    Module FunctionDef ClassDef arguments arg Return Assign AugAssign For While If Raise Try ExceptHandler
    ImportFrom alias Expr Pass Break Continue BoolOp And Or BinOp Add Sub Mult FloorDiv Mod Pow LShift RShift
    BitOr BitXor BitAnd UnaryOp Not USub UAdd Invert Lambda IfExp Dict Set ListComp comprehension Compare
    Eq NotEq Lt LtE Gt GtE Is IsNot In NotIn Call keyword JoinedStr FormattedValue Constant Attribute
    Subscript Slice Name List Tuple Load Store
""".split())

BUILTINS = set("""
    len range enumerate zip min max sum abs sorted reversed int str bool list tuple dict set frozenset isinstance
    ord repr any all divmod Exception ValueError TypeError KeyError IndexError LookupError ZeroDivisionError
    ArithmeticError OverflowError RuntimeError NotImplementedError AttributeError StopIteration
""".split())

METHODS = set("""
    append clear copy count endswith extend find get index insert isalnum isalpha isdigit islower isspace isupper
    items join keys ljust lower lstrip partition pop remove replace reverse rfind rjust rpartition rsplit rstrip
    setdefault split splitlines startswith strip update upper values zfill bit_length
""".split())

DUNDERS = {"__init__", "__eq__", "__repr__", "__str__", "__len__"}

WORDS = re.compile(
    r"\b(type|typing|typing_extensions|enum|Enum|IntEnum|StrEnum|Flag|IntFlag|Generic|Protocol|ABC|ABCMeta"
    r"|namedtuple|NamedTuple|TypedDict|TYPE_CHECKING|abstractmethod)\b|dataclass|overload|contextmanager"
)


def package_files():
    return sorted(path for path in PACKAGE.rglob("*") if "__pycache__" not in path.parts)


def tree_of_file(path):
    return ast.parse(path.read_text(encoding="ascii"))


def nodes_of(tree, *kinds):
    return [node for node in ast.walk(tree) if isinstance(node, kinds)]


def method_names(tree):
    return {part.name for node in nodes_of(tree, ast.ClassDef) for part in node.body
            if isinstance(part, ast.FunctionDef)}


def value_names(tree):
    return {node.attr for node in nodes_of(tree, ast.Attribute) if isinstance(node.ctx, ast.Store)}


def bound_names(tree):
    names = {alias.asname or alias.name for node in nodes_of(tree, ast.ImportFrom) for alias in node.names}
    names |= {node.id for node in nodes_of(tree, ast.Name) if isinstance(node.ctx, ast.Store)}
    names |= {node.arg for node in nodes_of(tree, ast.arg)}
    names |= {node.name for node in nodes_of(tree, ast.ExceptHandler) if node.name}
    return names | {node.name for node in nodes_of(tree, ast.FunctionDef, ast.ClassDef)} - method_names(tree)


class Language(unittest.TestCase):
    def in_each_file(self, check):
        for path in package_files():
            with self.subTest(file=path.name):
                check(tree_of_file(path))

    def test_files(self):
        self.assertIn(PACKAGE / "__init__.py", package_files())
        for path in package_files():
            self.assertRegex(path.name, r"\A([a-z][a-z0-9_]*|__init__)\.py\Z")

    def test_signs_words_and_sizes(self):
        for path in package_files():
            with self.subTest(file=path.name):
                text = path.read_bytes().decode("ascii")
                self.assertRegex(text, r"\A[ -~\n]*\Z")
                self.assertIsNone(WORDS.search(text))
                lines = text.split("\n")
                self.assertLessEqual(len(lines), 401)
                self.assertLessEqual(max(map(len, lines)), 120)

    def test_nodes(self):
        def check(tree):
            for node in ast.walk(tree):
                self.assertIn(type(node).__name__, NODES, ast.dump(node))
            for node in nodes_of(tree, ast.For, ast.While):
                self.assertEqual(node.orelse, [])
            for node in nodes_of(tree, ast.Try):
                self.assertEqual(node.finalbody, [])
            for node in nodes_of(tree, ast.Assign):
                self.assertEqual(len(node.targets), 1)
            for node in nodes_of(tree, ast.ListComp):
                self.assertEqual(len(node.generators), 1)
                self.assertLessEqual(len(node.generators[0].ifs), 1)
        self.in_each_file(check)

    def test_plain_values(self):
        def check(tree):
            for node in nodes_of(tree, ast.Constant):
                self.assertIn(type(node.value), (str, bool, int, type(None)))
                self.assertFalse(isinstance(node.value, str) and "%" in node.value)
            for node in nodes_of(tree, ast.BinOp):
                if isinstance(node.op, ast.Pow):
                    self.assertIsInstance(node.right, ast.Constant)
                    self.assertIn(node.right.value, range(65))
        self.in_each_file(check)

    def test_is_stands_beside_none_and_truths_alone(self):
        def check(tree):
            for node in nodes_of(tree, ast.Compare):
                for operator, right in zip(node.ops, node.comparators):
                    if isinstance(operator, (ast.Is, ast.IsNot)):
                        self.assertIsInstance(right, ast.Constant)
                        self.assertIn(type(right.value), (bool, type(None)))
        self.in_each_file(check)

    def test_only_calls_stand_by_themselves(self):
        def check(tree):
            self.assertIsNotNone(ast.get_docstring(tree))
            for node in nodes_of(tree, ast.Expr):
                self.assertTrue(node is tree.body[0] or isinstance(node.value, ast.Call))
        self.in_each_file(check)

    def test_the_top_of_a_file(self):
        def check(tree):
            names = []
            for node in tree.body[1:]:
                self.assertIsInstance(node, (ast.ImportFrom, ast.FunctionDef, ast.ClassDef, ast.Assign))
                if isinstance(node, ast.Assign):
                    self.assertEqual(nodes_of(node.value, ast.Call, ast.BinOp, ast.ListComp), [])
                    names.append(node.targets[0].id)
                elif isinstance(node, ast.ImportFrom):
                    names.extend(alias.asname or alias.name for alias in node.names)
                else:
                    names.append(node.name)
            self.assertEqual(sorted(names), sorted(set(names)))
        self.in_each_file(check)

    def test_imports(self):
        def check(tree):
            for node in nodes_of(tree, ast.ImportFrom):
                self.assertIn(node, tree.body)
                self.assertEqual(node.level, 0)
                self.assertRegex(node.module, r"\Abesideseats\.[a-z][a-z0-9_]*\Z")
                source = tree_of_file(PACKAGE / (node.module.partition(".")[2] + ".py"))
                imported = {alias.name for part in nodes_of(source, ast.ImportFrom) for alias in part.names}
                for alias in node.names:
                    self.assertIn(alias.name, bound_names(source) - imported)
        self.in_each_file(check)
        self.assertEqual(nodes_of(tree_of_file(PACKAGE / "__init__.py"), ast.ImportFrom), [])

    def test_no_files_draw_from_one_another(self):
        drawn = {path.stem: {node.module.partition(".")[2] for node in nodes_of(tree_of_file(path), ast.ImportFrom)}
                 for path in package_files()}
        while drawn:
            settled = [name for name in drawn if not drawn[name] & set(drawn)]
            self.assertTrue(settled, drawn)
            for name in settled:
                drawn.pop(name)

    def test_functions(self):
        def check(tree):
            for node in nodes_of(tree, ast.FunctionDef):
                self.assertLessEqual(node.end_lineno - node.lineno + 1, 40, node.name)
                self.assertEqual(node.decorator_list, [])
                self.assertEqual(node.args.kwonlyargs + node.args.posonlyargs, [])
                self.assertIsNone(node.args.vararg or node.args.kwarg)
        self.in_each_file(check)

    def test_classes(self):
        def check(tree):
            for node in nodes_of(tree, ast.ClassDef):
                self.assertIn(node, tree.body)
                self.assertEqual(node.decorator_list + node.keywords, [])
                self.assertLessEqual(len(node.bases), 1)
                for part in node.body:
                    self.assertIsInstance(part, (ast.FunctionDef, ast.Pass))
        self.in_each_file(check)

    def test_names(self):
        def check(tree):
            bound = bound_names(tree)
            self.assertEqual(bound & set(dir(builtins)), set())
            for name in bound | (method_names(tree) | value_names(tree)) - DUNDERS:
                self.assertRegex(name, r"\A[A-Za-z][A-Za-z0-9_]*\Z")
            for node in nodes_of(tree, ast.Name):
                self.assertIn(node.id, bound | BUILTINS)
        self.in_each_file(check)

    def test_no_local_is_called_like_an_import_or_a_class(self):
        def check(tree):
            drawn = {alias.asname or alias.name for node in nodes_of(tree, ast.ImportFrom) for alias in node.names}
            drawn |= {node.name for node in nodes_of(tree, ast.ClassDef)}
            for node in nodes_of(tree, ast.FunctionDef, ast.Lambda):
                own = {part.arg for part in nodes_of(node, ast.arg)}
                own |= {part.id for part in nodes_of(node, ast.Name) if isinstance(part.ctx, ast.Store)}
                self.assertEqual(own & drawn, set())
        self.in_each_file(check)

    def test_methods_and_values_are_listed_or_own(self):
        trees = [tree_of_file(path) for path in package_files()]
        methods = {name for tree in trees for name in method_names(tree)}
        values = {name for tree in trees for name in value_names(tree)}
        self.assertEqual(methods & values, set())

        def check(tree):
            for node in nodes_of(tree, ast.Attribute):
                self.assertIn(node.attr, METHODS | DUNDERS | methods | values)
        self.in_each_file(check)


if __name__ == "__main__":
    unittest.main()
