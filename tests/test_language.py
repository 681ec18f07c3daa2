"""The rules of LANGUAGE.md that a plain look at the package's files can tell."""

import ast
import builtins
import pathlib
import re
import unittest

PACKAGE = pathlib.Path(__file__).resolve().parent.parent / "zipspring"
BARRED_WORDS = re.compile(
    r"\b(type|typing|typing_extensions|enum|Enum|IntEnum|StrEnum|Flag|IntFlag|Generic|Protocol|ABC|ABCMeta"
    r"|namedtuple|NamedTuple|TypedDict|TYPE_CHECKING|abstractmethod)\b|dataclass|overload|contextmanager"
)
BUILTINS = set(
    "len range enumerate zip min max sum abs sorted reversed int str bool bytes list tuple dict set frozenset"
    " isinstance ord repr any all divmod Exception ValueError TypeError KeyError IndexError LookupError"
    " ZeroDivisionError ArithmeticError OverflowError RuntimeError NotImplementedError AttributeError"
    " StopIteration NotImplemented".split()
)
BARRED_BUILTINS = set(dir(builtins)) - BUILTINS
METHODS = set(
    "append clear copy count endswith extend find get index insert isalnum isalpha isdigit islower isspace isupper"
    " items join keys ljust lower lstrip partition pop remove replace reverse rfind rjust rpartition rsplit rstrip"
    " setdefault split splitlines startswith strip update upper values zfill bit_length sort add discard".split()
)
BARRED_NAMES = set(
    "register mro elements open input version_info with_traceback add_note attrgetter breakpoint builtins compile"
    " copyright credits delattr dir eval exec exit gc getattr globals hasattr help id importlib license locals"
    " methodcaller os quit setattr super type vars sys chr".split()
)
BARRED_NODES = (
    ast.Global, ast.AsyncFunctionDef, ast.AsyncFor, ast.AsyncWith, ast.Await, ast.Import, ast.Div, ast.MatMult,
)


def texts():
    """Each file's name and text."""
    return [(path.name, path.read_text(encoding="utf-8")) for path in sorted(PACKAGE.glob("**/*.py"))]


def nodes():
    """Each file's name and each node of its tree."""
    return [(name, node) for name, text in texts() for node in ast.walk(ast.parse(text))]


class Language(unittest.TestCase):
    def test_nothing_but_python_files(self):
        self.assertTrue((PACKAGE / "__init__.py").is_file())
        for path in PACKAGE.glob("**/*"):
            if "__pycache__" not in path.parts and path.is_file():
                self.assertRegex(path.name, r"\A[a-z0-9_]+\.py\Z")

    def test_signs_and_words(self):
        for name, text in texts():
            self.assertRegex(text, r"\A[ -~\n]*\Z", name)
            self.assertNotRegex(text, BARRED_WORDS, name)

    def test_sizes(self):
        for name, text in texts():
            self.assertLessEqual(len(text.splitlines()), 400, name)
            self.assertLessEqual(max(len(line) for line in text.splitlines()), 120, name)
        for name, node in nodes():
            if isinstance(node, ast.FunctionDef):
                self.assertLessEqual(node.end_lineno - node.lineno + 1, 40, f"{name}: {node.name}")

    def test_imports(self):
        for name, node in nodes():
            if isinstance(node, ast.ImportFrom):
                self.assertEqual(0, node.level, name)
                self.assertEqual(0, node.col_offset, name)
                self.assertRegex(node.module, r"\Azipspring\.[a-z_]+\Z", name)
                self.assertNotIn("*", [alias.name for alias in node.names], name)

    def test_barred_nodes(self):
        for name, node in nodes():
            self.assertNotIsInstance(node, BARRED_NODES, name)
            if isinstance(node, ast.Constant):
                self.assertNotIsInstance(node.value, (float, complex), name)
                self.assertNotIn("%", str(node.value), name)

    def test_names(self):
        for name, node in nodes():
            if isinstance(node, ast.Name):
                self.assertNotIn(node.id, BARRED_BUILTINS, name)
                self.assertFalse(node.id.startswith("_"), f"{name}: {node.id}")
                if not isinstance(node.ctx, ast.Load):
                    self.assertNotIn(node.id, BUILTINS, name)

    def test_no_local_name_hides_another(self):
        """No parameter and no local variable has the name of an import or a class of its file, or of a builtin."""
        for name, text in texts():
            tree = ast.parse(text)
            taken = set(dir(builtins))
            for node in ast.walk(tree):
                if isinstance(node, ast.ImportFrom):
                    taken |= {alias.asname or alias.name for alias in node.names}
                elif isinstance(node, ast.ClassDef):
                    taken.add(node.name)
            for node in ast.walk(tree):
                if isinstance(node, ast.arg):
                    self.assertNotIn(node.arg, taken, name)
                elif isinstance(node, ast.Name) and isinstance(node.ctx, ast.Store):
                    self.assertNotIn(node.id, taken, name)

    def test_barred_names(self):
        for name, node in nodes():
            for field in ("id", "arg", "name", "attr"):
                self.assertNotIn(getattr(node, field, None), BARRED_NAMES, name)

    def test_methods_and_attributes_have_names_of_their_own(self):
        methods = {
            method.name for _, node in nodes() if isinstance(node, ast.ClassDef)
            for method in node.body if isinstance(method, ast.FunctionDef)
        }
        for name, node in nodes():
            if isinstance(node, ast.Attribute) and isinstance(node.ctx, ast.Store):
                self.assertNotIn(node.attr, methods, name)

    def test_powers(self):
        for name, node in nodes():
            if isinstance(node, ast.BinOp) and isinstance(node.op, ast.Pow):
                self.assertIsInstance(node.right, ast.Constant, name)
                self.assertLessEqual(node.right.value, 64, name)

    def test_methods(self):
        own = {node.name for _, node in nodes() if isinstance(node, ast.FunctionDef)}
        for name, node in nodes():
            if isinstance(node, ast.Call) and isinstance(node.func, ast.Attribute):
                self.assertIn(node.func.attr, METHODS | own, name)

    def test_is(self):
        for name, node in nodes():
            if isinstance(node, ast.Compare):
                for sign, thing in zip(node.ops, node.comparators):
                    if isinstance(sign, (ast.Is, ast.IsNot)):
                        self.assertIn(ast.unparse(thing), ("None", "True", "False"), name)

    def test_no_two_files_import_each_other(self):
        imports = {name[:-3]: set() for name, _ in texts()}
        for name, node in nodes():
            if isinstance(node, ast.ImportFrom):
                imports[name[:-3]].add(node.module.removeprefix("zipspring."))
        while imports:
            free = [name for name in imports if not imports[name] & set(imports)]
            self.assertNotEqual([], free, imports)
            for name in free:
                del imports[name]
