"""That the package keeps to its part of the language, as far as a walk through the syntax can see it."""

import ast
import builtins
import pathlib
import re
import unittest

PACKAGE = pathlib.Path(__file__).resolve().parent.parent / "parcelduty"

NODES = """Module Expr Constant ImportFrom alias FunctionDef ClassDef arguments arg Assign AugAssign If While For Return
Break Continue Pass Raise Try ExceptHandler Name Load Store Attribute Call keyword Subscript Slice List Tuple Dict Set
ListComp comprehension BinOp UnaryOp BoolOp Compare IfExp Lambda JoinedStr FormattedValue Add Sub Mult FloorDiv Mod Pow
BitAnd BitOr BitXor LShift RShift Invert Not USub UAdd And Or Eq NotEq Lt LtE Gt GtE Is IsNot In NotIn""".split()

PYTHONS_OWN = """len range enumerate zip min max sum abs sorted reversed int str bool list tuple dict set frozenset
isinstance ord repr any all divmod Exception ValueError TypeError KeyError IndexError LookupError ZeroDivisionError
ArithmeticError OverflowError RuntimeError NotImplementedError AttributeError StopIteration""".split()

METHODS = """append clear copy count endswith extend find get index insert isalnum isalpha isdigit islower isspace
isupper items join keys ljust lower lstrip partition pop remove replace reverse rfind rjust rpartition rsplit rstrip
setdefault split splitlines startswith strip update upper values zfill bit_length""".split()

UNUSED_WORDS = """type typing typing_extensions enum Enum IntEnum StrEnum Flag IntFlag Generic Protocol ABC ABCMeta
namedtuple NamedTuple TypedDict TYPE_CHECKING abstractmethod""".split()

UNUSED_NAMES = """register mro elements open input version_info with_traceback add_note attrgetter breakpoint builtins
compile copyright credits delattr dir eval exec exit gc getattr globals hasattr help id importlib license locals
methodcaller os quit setattr super type vars sys""".split()

UNUSED_FILES = UNUSED_WORDS + "test tests testing site conftest sitecustomize usercustomize".split() + dir(builtins)

TWO_UNDERSCORES = ["__init__", "__eq__", "__repr__", "__str__", "__len__"]


def sources():
    return {path: path.read_text("utf-8") for path in sorted(PACKAGE.glob("*.py"))}


def trees():
    return {path: ast.parse(text) for path, text in sources().items()}


def found(kind):
    """Each node of a kind, with the place where it stands."""
    for path, tree in trees().items():
        for node in ast.walk(tree):
            if isinstance(node, kind):
                yield f"{path.name}:{getattr(node, 'lineno', 0)}", node


def imported(tree):
    """The names that a file draws from others, with the file each is drawn from."""
    return {alias.name: node.module for node in tree.body if isinstance(node, ast.ImportFrom) for alias in node.names}


def defined(tree):
    """The names that a file's top binds itself."""
    names = [node.name for node in tree.body if isinstance(node, (ast.FunctionDef, ast.ClassDef))]
    return names + [node.targets[0].id for node in tree.body if isinstance(node, ast.Assign)]


def methods_and_values():
    """The names of the package's methods, and those of the values that its objects keep."""
    methods = {node.name for place, owner in found(ast.ClassDef) for node in owner.body
               if isinstance(node, ast.FunctionDef)}
    values = {node.attr for place, node in found(ast.Attribute) if isinstance(node.ctx, ast.Store)}
    return methods, values


class Files(unittest.TestCase):
    def test_what_lies_in_the_package(self):
        for path in PACKAGE.iterdir():
            if path.name not in ("__pycache__", "__init__.py"):
                self.assertRegex(path.name, r"^[a-z][a-z0-9_]*\.py$")
                self.assertNotIn(path.stem, UNUSED_FILES)
        self.assertTrue((PACKAGE / "__init__.py").exists())

    def test_sizes_and_signs(self):
        for path, text in sources().items():
            self.assertRegex(text, r"^[ -~\n]*$", path.name)
            self.assertLessEqual(len(text.splitlines()), 400, path.name)
            for line in text.splitlines():
                self.assertLessEqual(len(line), 120, line)
        for place, node in found(ast.FunctionDef):
            self.assertLessEqual(node.end_lineno - node.lineno + 1, 40, place)

    def test_words_that_stand_nowhere(self):
        for path, text in sources().items():
            words = set(re.findall(r"[A-Za-z0-9_]+", text))
            self.assertEqual(words & set(UNUSED_WORDS), set(), path.name)
            self.assertIsNone(re.search("dataclass|overload|contextmanager", text), path.name)


class Tops(unittest.TestCase):
    def test_what_stands_there(self):
        for path, tree in trees().items():
            self.assertIsNotNone(ast.get_docstring(tree), path.name)
            for node in tree.body[1:]:
                self.assertIsInstance(node, (ast.ImportFrom, ast.FunctionDef, ast.ClassDef, ast.Assign), path.name)
                if isinstance(node, ast.Assign):
                    ast.literal_eval(node.value)

    def test_each_name_once(self):
        for path, tree in trees().items():
            names = defined(tree) + list(imported(tree))
            self.assertEqual(len(names), len(set(names)), path.name)

    def test_imports(self):
        tops = {path.stem: tree for path, tree in trees().items()}
        for path, tree in trees().items():
            for name, module in imported(tree).items():
                self.assertRegex(module, r"^parcelduty\.[a-z]+$", path.name)
                self.assertIn(name, defined(tops[module.split(".")[1]]), path.name)
        for place, node in found(ast.alias):
            self.assertIsNone(node.asname, place)
        self.assertEqual(len(tops["__init__"].body), 1)

    def test_no_two_files_draw_from_one_another(self):
        drawn = {path.stem: {module.split(".")[1] for module in imported(tree).values()}
                 for path, tree in trees().items()}
        while drawn:
            free = [name for name in drawn if not drawn[name] & set(drawn)]
            self.assertTrue(free, drawn)
            drawn = {name: drawn[name] for name in drawn if name not in free}


class Syntax(unittest.TestCase):
    def test_nodes(self):
        for place, node in found(ast.AST):
            self.assertIn(type(node).__name__, NODES, place)

    def test_values(self):
        for place, node in found(ast.Constant):
            self.assertIn(type(node.value), (int, str, bool, type(None)), place)
            self.assertFalse(isinstance(node.value, str) and "%" in node.value, place)

    def test_statements(self):
        for place, node in found((ast.For, ast.While)):
            self.assertEqual(node.orelse, [], place)
        for place, node in found(ast.Assign):
            self.assertEqual(len(node.targets), 1, place)
            self.assertIsInstance(node.targets[0], (ast.Name, ast.Attribute, ast.Subscript), place)
        for place, node in found(ast.Expr):
            self.assertIsInstance(node.value, (ast.Call, ast.Constant), place)
        for place, node in found(ast.ListComp):
            self.assertEqual(len(node.generators), 1, place)
            self.assertLessEqual(len(node.generators[0].ifs), 1, place)
        for place, node in found(ast.Compare):
            for sign, right in zip(node.ops, node.comparators):
                if isinstance(sign, (ast.Is, ast.IsNot)):
                    self.assertIsInstance(right, ast.Constant, place)

    def test_functions(self):
        for place, node in found(ast.FunctionDef):
            self.assertEqual(node.decorator_list, [], place)
            self.assertIsNone(node.returns, place)
            rest = node.args
            self.assertEqual([rest.posonlyargs, rest.vararg, rest.kwonlyargs, rest.kwarg], [[], None, [], None], place)
            self.assertIsNotNone(ast.get_docstring(node) or node.name == "__init__" or None, place)

    def test_classes(self):
        for place, node in found(ast.ClassDef):
            self.assertEqual(node.decorator_list + node.keywords, [], place)
            self.assertLessEqual(len(node.bases), 1, place)
            for part in node.body[1:]:
                self.assertIsInstance(part, ast.FunctionDef, place)
        methods, values = methods_and_values()
        self.assertEqual(methods & values, set())


class Names(unittest.TestCase):
    def test_names_are_plain(self):
        for place, node in found((ast.Name, ast.arg, ast.FunctionDef, ast.ClassDef, ast.Attribute)):
            name = next(getattr(node, key) for key in ("id", "arg", "name", "attr") if hasattr(node, key))
            if name not in TWO_UNDERSCORES:
                self.assertRegex(name, r"^[A-Za-z][A-Za-z0-9_]*$", place)
            self.assertNotIn(name, UNUSED_NAMES, place)
            self.assertNotRegex(name, r"^(f|tb|co|gi|cr|ag)_", place)

    def test_pythons_own_names(self):
        for path, tree in trees().items():
            own = set(defined(tree)) | set(imported(tree)) | set(PYTHONS_OWN)
            bound = {node.id for node in ast.walk(tree) if isinstance(node, ast.Name) and isinstance(node.ctx, ast.Store)}
            bound |= {node.arg for node in ast.walk(tree) if isinstance(node, ast.arg)}
            used = {node.id for node in ast.walk(tree) if isinstance(node, ast.Name)}
            self.assertEqual(used - own - bound, set(), path.name)
            classes = {node.name for node in tree.body if isinstance(node, ast.ClassDef)}
            others = set(dir(builtins)) | set(imported(tree)) | classes
            self.assertEqual(bound & others, set(), path.name)

    def test_methods(self):
        methods, values = methods_and_values()
        for place, node in found(ast.Call):
            if isinstance(node.func, ast.Attribute):
                self.assertIn(node.func.attr, list(methods) + METHODS, place)

    def test_names_of_methods_and_values(self):
        methods, values = methods_and_values()
        pythons = {name for kind in (str, int, list, dict, set, bytes, tuple, BaseException) for name in dir(kind)}
        self.assertEqual((methods | values) & (pythons - set(TWO_UNDERSCORES)), set())

    def test_what_is_walked_at_once(self):
        walked = set()
        for place, node in found((ast.For, ast.comprehension)):
            walked.add(ast.dump(node.iter))
        for place, node in found(ast.Call):
            name = node.func.id if isinstance(node.func, ast.Name) else node.func.attr
            if name in ("zip", "enumerate", "reversed", "range", "items", "keys", "values"):
                self.assertIn(ast.dump(node), walked, place)


if __name__ == "__main__":
    unittest.main()
