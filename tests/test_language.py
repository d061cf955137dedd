"""The package keeps to the part of Python that LANGUAGE.md tells, as far as a walk over its rows can see."""

import ast
import builtins
import re
import unittest
from pathlib import Path

PACKAGE = Path(__file__).resolve().parent.parent / "fivecups"

NODES = """Module FunctionDef ClassDef Lambda arguments arg Return Assign AugAssign For While If Raise Try
ExceptHandler ImportFrom alias Expr Pass Break Continue BoolOp And Or BinOp Add Sub Mult FloorDiv Mod Pow
BitAnd BitOr BitXor LShift RShift UnaryOp Not USub UAdd Invert IfExp Dict Set List Tuple ListComp comprehension
Compare Eq NotEq Lt LtE Gt GtE Is IsNot In NotIn Call keyword JoinedStr FormattedValue Constant Attribute
Subscript Slice Name Load Store""".split()

OWN_NAMES = """len range enumerate zip min max sum abs sorted reversed int str bool list tuple dict set
isinstance ord repr any all divmod Exception ValueError TypeError KeyError IndexError LookupError
ZeroDivisionError ArithmeticError OverflowError RuntimeError NotImplementedError StopIteration""".split()

METHODS = """append clear copy count endswith extend find get index insert isalnum isalpha isdigit islower isspace
isupper items join keys ljust lower lstrip partition pop remove replace reverse rfind rjust rpartition rsplit
rstrip setdefault split splitlines startswith strip update upper values zfill bit_length""".split()

TWO_UNDERSCORES = ("__init__", "__eq__", "__repr__", "__str__", "__len__")

WORDS = """type typing typing_extensions enum Enum IntEnum StrEnum Flag IntFlag Generic Protocol ABC ABCMeta
namedtuple NamedTuple TypedDict TYPE_CHECKING abstractmethod""".split()

NAMES = """register mro elements open input version_info with_traceback add_note attrgetter breakpoint builtins
compile delattr dir eval exec exit gc getattr globals hasattr help id importlib locals methodcaller os quit
setattr super sys vars chr format format_map""".split()

WALKED = ("zip", "enumerate", "reversed", "range")
WALKERS = ("list", "tuple", "dict", "sorted", "sum", "any", "all", "enumerate", "zip", "min", "max")


def files():
    return sorted(PACKAGE.glob("*.py"))


def text_of(file):
    return file.read_text(encoding="utf-8")


def nodes(kinds=ast.AST):
    return [
        (file.name, node) for file in files() for node in ast.walk(ast.parse(text_of(file))) if isinstance(node, kinds)
    ]


def bound_names():
    names = [node.id for file, node in nodes(ast.Name) if isinstance(node.ctx, ast.Store)]
    names += [node.arg for file, node in nodes(ast.arg)]
    return names + [node.name for file, node in nodes((ast.FunctionDef, ast.ClassDef))]


def own_attributes():
    stored = [node.attr for file, node in nodes(ast.Attribute) if isinstance(node.ctx, ast.Store)]
    methods = [item.name for file, node in nodes(ast.ClassDef) for item in node.body if hasattr(item, "name")]
    return stored + methods


class FilesTest(unittest.TestCase):
    def test_only_plain_python_files_lie_in_the_package(self):
        names = sorted(thing.name for thing in PACKAGE.iterdir() if thing.name != "__pycache__")
        self.assertEqual(names, [file.name for file in files()])
        for name in names:
            if name != "__init__.py":
                self.assertRegex(name, r"\A[a-z][a-z0-9_]*\.py\Z")
                self.assertFalse(hasattr(builtins, name[:-3]), name)

    def test_rows_and_signs(self):
        for file in files():
            text = text_of(file)
            rows = text.split("\n")
            self.assertLessEqual(len(rows), 401, file.name)
            self.assertLessEqual(max(len(row) for row in rows), 120, file.name)
            self.assertRegex(text, r"\A[ -~\n]*\Z", file.name)

    def test_words_that_stand_nowhere(self):
        for file in files():
            found = re.findall(r"\w+", text_of(file))
            self.assertEqual([word for word in found if word in WORDS], [], file.name)
            self.assertNotRegex(text_of(file), "dataclass|overload|contextmanager")

    def test_functions_are_short(self):
        for file, node in nodes(ast.FunctionDef):
            self.assertLessEqual(node.end_lineno - node.lineno + 1, 40, (file, node.name))


class ShapeTest(unittest.TestCase):
    def test_kinds_of_rows_and_values(self):
        for file, node in nodes():
            self.assertIn(node.__class__.__name__, NODES, (file, getattr(node, "lineno", 0)))

    def test_the_top_of_a_file(self):
        for file in files():
            for node in ast.parse(text_of(file)).body:
                known = (ast.Expr, ast.ImportFrom, ast.FunctionDef, ast.ClassDef, ast.Assign)
                self.assertIsInstance(node, known, (file.name, node.lineno))
                if isinstance(node, ast.Expr):
                    self.assertIsInstance(node.value, ast.Constant, (file.name, node.lineno))

    def test_functions_and_classes_are_plain(self):
        for file, node in nodes((ast.FunctionDef, ast.ClassDef)):
            self.assertEqual(node.decorator_list, [], (file, node.name))
        for file, node in nodes(ast.arguments):
            self.assertEqual((node.vararg, node.kwarg, node.kwonlyargs, node.posonlyargs), (None, None, [], []), file)
        for file, node in nodes(ast.ClassDef):
            self.assertLessEqual(len(node.bases), 1, (file, node.name))
            for item in node.body:
                self.assertIsInstance(item, (ast.FunctionDef, ast.Pass), (file, node.name))

    def test_rows_that_have_narrower_forms(self):
        for file, node in nodes(ast.Assign):
            self.assertEqual(len(node.targets), 1, (file, node.lineno))
        for file, node in nodes((ast.For, ast.While)):
            self.assertEqual(node.orelse, [], (file, node.lineno))
        for file, node in nodes(ast.ListComp):
            self.assertEqual(len(node.generators), 1, (file, node.lineno))
            self.assertLessEqual(len(node.generators[0].ifs), 1, (file, node.lineno))
        for file, node in nodes(ast.Compare):
            if any(isinstance(sign, (ast.Is, ast.IsNot)) for sign in node.ops):
                self.assertTrue(all(isinstance(side, ast.Constant) for side in node.comparators), (file, node.lineno))
        for file, node in nodes(ast.FormattedValue):
            self.assertIsInstance(node.value, ast.Name, (file, node.lineno))

    def test_plain_values(self):
        for file, node in nodes(ast.Constant):
            self.assertIsInstance(node.value, (int, str, bool, type(None)), (file, node.lineno))
            self.assertNotIn("%", str(node.value), (file, node.lineno))

    def test_what_is_walked_is_walked_at_once(self):
        walked = []
        for file, node in nodes((ast.For, ast.comprehension, ast.Call)):
            if not isinstance(node, ast.Call):
                walked.append((file, node.iter))
            elif isinstance(node.func, ast.Name) and node.func.id in WALKERS:
                first = node.args if node.func.id == "zip" else node.args[:1]
                walked += [(file, thing) for thing in first]
        places = [(file, node.lineno, node.col_offset) for file, node in walked]
        for file, node in nodes(ast.Call):
            if isinstance(node.func, ast.Name) and node.func.id in WALKED:
                self.assertIn((file, node.lineno, node.col_offset), places)


class NamesTest(unittest.TestCase):
    def test_imports_are_of_the_package_alone_and_draw_in_no_round(self):
        drawn = {}
        for file, node in nodes(ast.ImportFrom):
            self.assertEqual(node.level, 0, file)
            self.assertRegex(node.module, r"\Afivecups\.[a-z]+\Z", file)
            self.assertTrue((PACKAGE / (node.module.split(".")[1] + ".py")).exists(), (file, node.module))
            self.assertEqual([alias.name for alias in node.names if alias.name == "*" or alias.asname], [], file)
            drawn.setdefault(file, []).append(node.module.split(".")[1] + ".py")
        while drawn:
            free = [file for file in drawn if not any(other in drawn for other in drawn[file])]
            self.assertNotEqual(free, [], drawn)
            drawn = {file: drawn[file] for file in drawn if file not in free}

    def test_every_name_is_plain(self):
        bound = bound_names()
        for name in bound + own_attributes():
            if name not in TWO_UNDERSCORES:
                self.assertRegex(name, r"\A[A-Za-z][A-Za-z0-9_]*\Z")
                self.assertNotIn(name, NAMES)
                self.assertFalse(name in bound and hasattr(builtins, name), name)

    def test_names_of_pythons_own(self):
        bound = set(bound_names())
        for file, node in nodes(ast.ImportFrom):
            bound.update(alias.name for alias in node.names)
        for file, node in nodes(ast.Name):
            self.assertTrue(node.id in bound or node.id in OWN_NAMES, (file, node.lineno, node.id))

    def test_methods_of_pythons_own(self):
        known = METHODS + own_attributes()
        for file, node in nodes(ast.Attribute):
            self.assertIn(node.attr, known, (file, node.lineno))

    def test_no_local_is_called_like_an_import_or_a_class(self):
        for file in files():
            tree = ast.parse(text_of(file))
            taken = [alias.name for node in tree.body if isinstance(node, ast.ImportFrom) for alias in node.names]
            taken += [node.name for node in tree.body if isinstance(node, ast.ClassDef)]
            for node in ast.walk(tree):
                if isinstance(node, ast.arg):
                    self.assertNotIn(node.arg, taken, file.name)
                if isinstance(node, ast.Name) and isinstance(node.ctx, ast.Store):
                    self.assertNotIn(node.id, taken, file.name)

    def test_each_name_of_a_files_top_is_bound_once(self):
        for file in files():
            names = []
            for node in ast.parse(text_of(file)).body:
                if isinstance(node, ast.ImportFrom):
                    names += [alias.name for alias in node.names]
                elif isinstance(node, ast.Assign):
                    names += [target.id for target in node.targets]
                elif isinstance(node, (ast.FunctionDef, ast.ClassDef)):
                    names.append(node.name)
            self.assertEqual(len(names), len(set(names)), file.name)


if __name__ == "__main__":
    unittest.main()
