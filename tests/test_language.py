"""The rules of the program's small language that a look at its text can tell."""

import ast
import builtins
import pathlib
import re
import unittest

PACKAGE = pathlib.Path(__file__).resolve().parent.parent / "meanloom"

BUILTINS = set(
    "len range enumerate zip min max sum abs sorted reversed int str bool bytes list tuple dict set frozenset isinstance "
    "ord repr any all divmod Exception ValueError TypeError KeyError IndexError LookupError ZeroDivisionError "
    "ArithmeticError OverflowError RuntimeError NotImplementedError AttributeError StopIteration NotImplemented".split()
)
METHODS = set(
    "append clear copy count endswith extend find get index insert isalnum isalpha isdigit islower isspace isupper items "
    "join keys ljust lower lstrip partition pop remove replace reverse rfind rjust rpartition rsplit rstrip setdefault "
    "split splitlines startswith strip update upper values zfill bit_length add discard".split()
)
BARRED_WORDS = (
    "type typing typing_extensions enum Enum IntEnum StrEnum Flag IntFlag Generic Protocol ABC ABCMeta namedtuple "
    "NamedTuple TypedDict TYPE_CHECKING abstractmethod"
).split()
BARRED_NAMES = set(
    "register mro elements open input version_info with_traceback add_note attrgetter breakpoint builtins compile "
    "copyright credits delattr dir eval exec exit gc getattr globals hasattr help id importlib license locals "
    "methodcaller os quit setattr super type vars sys".split()
)
BARRED_NODES = (ast.Import, ast.Global, ast.AsyncFunctionDef, ast.AsyncFor, ast.AsyncWith, ast.Await, ast.Div)


def files():
    """The name, the text and the tree of each file of the package."""
    texts = [(path.name, path.read_text(encoding="utf-8")) for path in sorted(PACKAGE.glob("*.py"))]
    return [(name, text, ast.parse(text)) for name, text in texts]


def bound_names(tree):
    """All names that a file's functions bind, and its parameters."""
    names = [node.id for node in ast.walk(tree) if isinstance(node, ast.Name) and not isinstance(node.ctx, ast.Load)]
    return names + [node.arg for node in ast.walk(tree) if isinstance(node, ast.arg)]


def defined_names(tree):
    """The names of a file's functions and classes."""
    return [node.name for node in ast.walk(tree) if isinstance(node, (ast.FunctionDef, ast.ClassDef))]


def imported(tree):
    """Pairs of a module and a name that a file imports."""
    nodes = [node for node in ast.walk(tree) if isinstance(node, ast.ImportFrom)]
    return [(node.module, name.name) for node in nodes for name in node.names]


class LanguageTest(unittest.TestCase):
    def test_the_folder_holds_only_plain_files(self):
        names = [path.name for path in PACKAGE.iterdir() if path.name != "__pycache__"]
        self.assertIn("__init__.py", names)
        for name in names:
            self.assertRegex(name, r"\A[a-z0-9_]+\.py\Z")

    def test_characters_and_sizes(self):
        for file, text, tree in files():
            with self.subTest(file=file):
                self.assertRegex(text, r"\A[ -~\n]*\Z")
                self.assertNotIn("\\", text)
                lines = text.split("\n")
                self.assertLessEqual(len(lines), 400)
                self.assertLessEqual(max(len(line) for line in lines), 120)
                for node in ast.walk(tree):
                    if isinstance(node, ast.FunctionDef):
                        self.assertLessEqual(node.end_lineno - node.lineno + 1, 40)

    def test_barred_words(self):
        for file, text, tree in files():
            with self.subTest(file=file):
                self.assertEqual(sorted(set(re.findall(r"\w+", text)) & set(BARRED_WORDS)), [])
                self.assertNotRegex(text, "dataclass|overload|contextmanager")

    def test_imports_name_the_defining_file_of_the_package(self):
        for file, text, tree in files():
            with self.subTest(file=file):
                for module, name in imported(tree):
                    self.assertRegex(module, r"\Ameanloom\.\w+\Z")
                    source = ast.parse((PACKAGE / (module.split(".")[1] + ".py")).read_text(encoding="utf-8"))
                    own = [node.id for row in source.body if isinstance(row, ast.Assign) for node in row.targets]
                    own += [row.name for row in source.body if isinstance(row, (ast.FunctionDef, ast.ClassDef))]
                    self.assertIn(name, own)

    def test_module_level_holds_definitions_only(self):
        for file, text, tree in files():
            with self.subTest(file=file):
                for at, row in enumerate(tree.body):
                    docstring = at == 0 and isinstance(row, ast.Expr) and isinstance(row.value, ast.Constant)
                    kinds = (ast.ImportFrom, ast.FunctionDef, ast.ClassDef, ast.Assign)
                    self.assertTrue(docstring or isinstance(row, kinds))

    def test_no_barred_statement_or_value(self):
        for file, text, tree in files():
            with self.subTest(file=file):
                for node in ast.walk(tree):
                    self.assertNotIsInstance(node, BARRED_NODES)
                    if isinstance(node, ast.Constant):
                        self.assertNotIsInstance(node.value, (float, complex))
                        if isinstance(node.value, str):
                            self.assertNotIn("%", node.value)
                    if isinstance(node, ast.Compare) and any(isinstance(sign, (ast.Is, ast.IsNot)) for sign in node.ops):
                        self.assertIsInstance(node.comparators[0], ast.Constant)
                    if isinstance(node, ast.FunctionDef):
                        self.assertEqual(node.decorator_list, [])
                    if isinstance(node, ast.BinOp) and isinstance(node.op, ast.Pow):
                        self.assertIsInstance(node.right, ast.Constant)

    def test_names(self):
        for file, text, tree in files():
            with self.subTest(file=file):
                imports = [name for module, name in imported(tree)]
                classes = [node.name for node in ast.walk(tree) if isinstance(node, ast.ClassDef)]
                defined = [name for name in defined_names(tree) if name != "__init__"]
                for name in bound_names(tree) + defined:
                    self.assertRegex(name, r"\A[A-Za-z][A-Za-z0-9_]*\Z")
                    self.assertNotIn(name, BARRED_NAMES)
                    self.assertNotIn(name, dir(builtins))
                    self.assertNotIn(name, imports)
                for name in bound_names(tree):
                    self.assertNotIn(name, classes)

    def test_only_told_builtins_and_methods(self):
        for file, text, tree in files():
            with self.subTest(file=file):
                known = set(bound_names(tree) + defined_names(tree) + [name for module, name in imported(tree)])
                used = {node.id for node in ast.walk(tree) if isinstance(node, ast.Name)}
                self.assertEqual(sorted(used - known - BUILTINS), [])
                called = [node.func.attr for node in ast.walk(tree)
                          if isinstance(node, ast.Call) and isinstance(node.func, ast.Attribute)]
                self.assertEqual(sorted(set(called) - METHODS), [])

    def test_a_double_underscore_stands_in_classes_only(self):
        for file, text, tree in files():
            with self.subTest(file=file):
                methods = [row for node in tree.body if isinstance(node, ast.ClassDef) for row in node.body]
                inner = [row.name for row in methods if isinstance(row, ast.FunctionDef)]
                self.assertEqual(defined_names(tree).count("__init__"), inner.count("__init__"))

    def test_no_name_is_both_a_method_and_an_attribute(self):
        methods, attributes = [], []
        for file, text, tree in files():
            for node in ast.walk(tree):
                if isinstance(node, ast.ClassDef):
                    methods += [row.name for row in node.body if isinstance(row, ast.FunctionDef)]
                if isinstance(node, ast.Attribute) and isinstance(node.ctx, ast.Store):
                    attributes.append(node.attr)
        self.assertEqual(set(methods) & set(attributes), set())
        self.assertEqual(set(attributes) & (METHODS | BARRED_NAMES), set())

    def test_no_two_files_import_each_other(self):
        reached = {"meanloom." + file[:-3]: {module for module, name in imported(tree)} for file, text, tree in files()}
        for step in range(len(reached)):
            reached = {file: told.union(*[reached[other] for other in told]) for file, told in reached.items()}
        for file, told in reached.items():
            self.assertNotIn(file, told)

    def test_views_are_iterated_on_the_spot(self):
        # So no function of the package's own is handed one.
        for file, text, tree in files():
            own = set(defined_names(tree) + [name for module, name in imported(tree)])
            for node in ast.walk(tree):
                if isinstance(node, ast.Call) and isinstance(node.func, ast.Name) and node.func.id in own:
                    for part in node.args:
                        view = isinstance(part, ast.Call) and isinstance(part.func, ast.Attribute)
                        self.assertFalse(view and part.func.attr in ["items", "keys", "values"], file)
                        built = isinstance(part, ast.Call) and isinstance(part.func, ast.Name)
                        self.assertFalse(built and part.func.id in ["zip", "range", "enumerate", "reversed"], file)

    def test_a_name_is_bound_once_at_module_level(self):
        for file, text, tree in files():
            with self.subTest(file=file):
                names = [name for module, name in imported(tree)]
                for row in tree.body:
                    if isinstance(row, (ast.FunctionDef, ast.ClassDef)):
                        names.append(row.name)
                    if isinstance(row, ast.Assign):
                        names += [node.id for node in row.targets]
                self.assertEqual(len(names), len(set(names)))


if __name__ == "__main__":
    unittest.main()
