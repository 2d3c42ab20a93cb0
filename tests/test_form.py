"""Holds the package's files against the rules of form that can be seen in a file by itself."""

import ast
import builtins
import pathlib
import re
import unittest

FOLDER = pathlib.Path(__file__).resolve().parent.parent / "racewise"

NODES = (
    "Module FunctionDef ClassDef arguments arg Lambda Return Assign AugAssign For While If Raise Try ExceptHandler "
    "ImportFrom alias Expr Pass Break Continue BoolOp BinOp UnaryOp IfExp Dict Set ListComp comprehension Compare "
    "Call keyword FormattedValue JoinedStr Constant Attribute Subscript Slice Name List Tuple Load Store "
    "And Or Add Sub Mult Mod Pow FloorDiv LShift RShift BitOr BitXor BitAnd Invert Not USub UAdd "
    "Eq NotEq Lt LtE Gt GtE Is IsNot In NotIn"
).split()
BUILTINS = (
    "len range enumerate zip min max sum abs sorted reversed int str bool list tuple dict set frozenset isinstance "
    "ord repr any all divmod Exception ValueError TypeError KeyError IndexError LookupError ZeroDivisionError "
    "ArithmeticError OverflowError RuntimeError NotImplementedError StopIteration"
).split()
METHODS = (
    "append clear copy count endswith extend find get index insert isalnum isalpha isdigit islower isspace isupper "
    "items join keys ljust lower lstrip partition pop remove replace reverse rfind rjust rpartition rsplit rstrip "
    "setdefault split splitlines startswith strip update upper values zfill bit_length"
).split()
NOWHERE = (
    "type typing typing_extensions enum Enum IntEnum StrEnum Flag IntFlag Generic Protocol ABC ABCMeta namedtuple "
    "NamedTuple TypedDict TYPE_CHECKING abstractmethod"
).split()
UNUSED = "register mro elements open input version_info with_traceback add_note format format_map".split()
OWN_OF_PYTHON = set().union(*[dir(kind) for kind in (str, int, list, dict, set, bytes, tuple)])


def files():
    return sorted(path for path in FOLDER.rglob("*") if path.is_file() and "__pycache__" not in path.parts)


def trees():
    return [(path.name, ast.parse(path.read_text(encoding="ascii"))) for path in files()]


def nodes(kinds):
    return [(name, node) for name, tree in trees() for node in ast.walk(tree) if isinstance(node, kinds)]


def where(name, node):
    return f"{name}:{node.lineno}"


class Form(unittest.TestCase):
    def test_files(self):
        self.assertIn(FOLDER / "__init__.py", files())
        for path in files():
            self.assertRegex(path.name, r"^[a-z0-9_]+\.py$")
            rows = path.read_bytes().decode("ascii").split("\n")
            self.assertLessEqual(len(rows), 401, path.name)
            for number, row in enumerate(rows, 1):
                self.assertRegex(row, r"^[ -~]{0,120}$", f"{path.name}:{number}")

    def test_words_that_stand_nowhere(self):
        for path in files():
            words = re.findall(r"\w+", path.read_text())
            self.assertEqual([word for word in words if word in NOWHERE], [], path.name)

    def test_nodes(self):
        for name, node in nodes(ast.AST):
            self.assertIn(node.__class__.__name__, NODES, f"{name}:{getattr(node, 'lineno', 0)}")

    def test_imports_are_the_packages_own(self):
        for name, node in nodes(ast.ImportFrom):
            self.assertRegex(node.module, r"^racewise\.[a-z_]+$", where(name, node))
            self.assertEqual(node.level, 0, where(name, node))

    def test_functions_are_short_and_plain(self):
        for name, node in nodes(ast.FunctionDef):
            self.assertLessEqual(node.end_lineno - node.lineno + 1, 40, where(name, node))
            self.assertEqual(node.decorator_list, [], where(name, node))
            self.assertEqual([node.args.vararg, node.args.kwarg, node.args.kwonlyargs], [None, None, []])

    def test_classes_hold_methods_alone(self):
        for name, node in nodes(ast.ClassDef):
            self.assertLessEqual(len(node.bases), 1, where(name, node))
            for part in node.body:
                self.assertIsInstance(part, (ast.FunctionDef, ast.Pass), where(name, part))

    def test_statements(self):
        for name, node in nodes(ast.Assign):
            self.assertEqual(len(node.targets), 1, where(name, node))
        for name, node in nodes((ast.For, ast.While)):
            self.assertEqual(node.orelse, [], where(name, node))
        for name, node in nodes(ast.Try):
            self.assertEqual(node.finalbody, [], where(name, node))
        for name, node in nodes(ast.Compare):
            for operator, side in zip(node.ops, node.comparators):
                if isinstance(operator, (ast.Is, ast.IsNot)):
                    self.assertIsInstance(side, ast.Constant, where(name, node))
                    self.assertIn(side.value, (None, True, False), where(name, node))

    def test_names(self):
        for name, node in nodes((ast.Name, ast.arg)):
            word = node.id if isinstance(node, ast.Name) else node.arg
            self.assertRegex(word, r"^[A-Za-z][A-Za-z0-9_]*$", where(name, node))
            self.assertNotIn(word, UNUSED, where(name, node))
            if hasattr(builtins, word):
                self.assertIn(word, BUILTINS, where(name, node))
                self.assertIsInstance(getattr(node, "ctx", None), ast.Load, where(name, node))

    def test_attributes(self):
        values = {node.attr for _, node in nodes(ast.Attribute) if isinstance(node.ctx, ast.Store)}
        methods = set()
        for _, node in nodes(ast.ClassDef):
            methods.update(part.name for part in node.body if isinstance(part, ast.FunctionDef))
        self.assertEqual(values & methods, set())
        self.assertEqual(values & OWN_OF_PYTHON, set())
        for name, node in nodes(ast.Attribute):
            self.assertNotIn(node.attr, UNUSED, where(name, node))
            if node.attr not in values | methods:
                self.assertIn(node.attr, METHODS, where(name, node))

    def test_no_names_bound_twice_at_the_top(self):
        for name, tree in trees():
            bound = []
            for node in tree.body:
                if isinstance(node, (ast.FunctionDef, ast.ClassDef)):
                    bound.append(node.name)
                elif isinstance(node, ast.Assign):
                    bound.append(node.targets[0].id)
                elif isinstance(node, ast.ImportFrom):
                    bound.extend(part.name for part in node.names)
            self.assertEqual(len(bound), len(set(bound)), name)


if __name__ == "__main__":
    unittest.main()
