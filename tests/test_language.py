"""The package keeps to the plain part of Python: what of its rules can be seen at a glance."""

import ast
import pathlib
import re
import unittest

PACKAGE = pathlib.Path(__file__).resolve().parent.parent / "nearstairs"

NO_WORDS = (
    "type typing typing_extensions enum Enum IntEnum StrEnum Flag IntFlag Generic Protocol ABC ABCMeta "
    "namedtuple NamedTuple TypedDict TYPE_CHECKING abstractmethod"
).split()
NO_PARTS = ["dataclass", "overload", "contextmanager"]

NO_NODES = (
    ast.With, ast.Match, ast.Global, ast.Nonlocal, ast.Yield, ast.YieldFrom, ast.Await, ast.AsyncFunctionDef,
    ast.AsyncFor, ast.AsyncWith, ast.GeneratorExp, ast.NamedExpr, ast.Div, ast.MatMult, ast.Import,
)
TOP_NODES = (ast.Expr, ast.ImportFrom, ast.FunctionDef, ast.ClassDef, ast.Assign)

OWN_NAMES = (
    "len range enumerate zip min max sum abs sorted reversed int str bool bytes list tuple dict set frozenset "
    "isinstance ord repr any all divmod Exception ValueError TypeError KeyError IndexError LookupError "
    "ZeroDivisionError ArithmeticError OverflowError RuntimeError NotImplementedError AttributeError StopIteration"
).split()
PYTHONS_NAMES = set(dir(__import__("builtins")))
TWO_UNDERSCORES = ["__init__", "__eq__", "__repr__", "__str__", "__len__"]

# What Python's own values may be asked for; an error class's __init__ is called by its base's name.
VALUES_METHODS = (
    "append clear copy count endswith extend find get index insert isalnum isalpha isdigit islower isspace isupper "
    "items join keys ljust lower lstrip partition pop remove replace reverse rfind rjust rpartition rsplit rstrip "
    "setdefault split splitlines startswith strip update upper values zfill bit_length add discard sort __init__"
).split()


def package_files():
    return [path for path in sorted(PACKAGE.rglob("*")) if "__pycache__" not in path.parts]


def trees():
    return [(path.name, ast.parse(path.read_text())) for path in package_files()]


def nodes():
    return [(name, node) for name, tree in trees() for node in ast.walk(tree)]


def own_methods():
    classes = [node for name, node in nodes() if isinstance(node, ast.ClassDef)]
    return {row.name for node in classes for row in node.body if isinstance(row, ast.FunctionDef)}


def own_values():
    return {node.attr for name, node in nodes() if isinstance(node, ast.Attribute) and isinstance(node.ctx, ast.Store)}


def given_names(tree):
    """The parameters and locals of a file's defs."""
    defs = [node for node in ast.walk(tree) if isinstance(node, (ast.FunctionDef, ast.Lambda))]
    inner = [node for one in defs for node in ast.walk(one)]
    parameters = {node.arg for node in inner if isinstance(node, ast.arg)}
    return parameters | {node.id for node in inner if isinstance(node, ast.Name) and isinstance(node.ctx, ast.Store)}


def taken_names(tree):
    """A file's classes and imports."""
    drawn = {row.name for node in tree.body if isinstance(node, ast.ImportFrom) for row in node.names}
    return drawn | {node.name for node in tree.body if isinstance(node, ast.ClassDef)}


class Files(unittest.TestCase):
    def test_nothing_but_plain_files_of_python(self):
        for path in package_files():
            with self.subTest(path=path.name):
                self.assertRegex(path.name, r"^([a-z][a-z0-9_]*|__init__|__main__)\.py$")

    def test_there_is_an_init(self):
        self.assertIn(PACKAGE / "__init__.py", package_files())

    def test_signs_and_sizes(self):
        for path in package_files():
            with self.subTest(path=path.name):
                text = path.read_bytes().decode("ascii")
                self.assertRegex(text, r"\A[ -~\n]*\Z")
                rows = text.splitlines()
                self.assertLessEqual(len(rows), 400)
                self.assertEqual([row for row in rows if len(row) > 120], [])

    def test_words_that_stand_nowhere(self):
        for path in package_files():
            with self.subTest(path=path.name):
                text = path.read_text()
                words = re.findall(r"\w+", text)
                self.assertEqual([word for word in words if word in NO_WORDS], [])
                self.assertEqual([part for part in NO_PARTS if part in text], [])


class Code(unittest.TestCase):
    def test_forms_that_are_left_out(self):
        found = [(name, node.lineno, node) for name, node in nodes() if isinstance(node, NO_NODES)]
        self.assertEqual(found, [])

    def test_no_floats(self):
        found = [(name, node.value) for name, node in nodes()
                 if isinstance(node, ast.Constant) and isinstance(node.value, (float, complex))]
        self.assertEqual(found, [])

    def test_what_stands_at_a_file_s_top(self):
        found = [(name, node.lineno) for name, tree in trees() for node in tree.body
                 if not isinstance(node, TOP_NODES)]
        self.assertEqual(found, [])

    def test_imports_are_the_package_s_own(self):
        for name, node in nodes():
            if isinstance(node, ast.ImportFrom):
                with self.subTest(name=name, line=node.lineno):
                    self.assertEqual(node.level, 0)
                    self.assertRegex(node.module, r"^nearstairs\.[a-z_]+$")
                    self.assertNotIn("*", [drawn.name for drawn in node.names])

    def test_defs_are_short_and_plain(self):
        for name, node in nodes():
            if isinstance(node, ast.FunctionDef):
                with self.subTest(name=name, called=node.name):
                    self.assertLessEqual(node.end_lineno - node.lineno + 1, 40)
                    self.assertEqual(node.decorator_list, [])
                    self.assertIsNone(node.args.vararg)
                    self.assertIsNone(node.args.kwarg)
                    self.assertEqual(node.args.posonlyargs, [])

    def test_classes_are_plain(self):
        for name, node in nodes():
            if isinstance(node, ast.ClassDef):
                with self.subTest(name=name, called=node.name):
                    self.assertLessEqual(len(node.bases), 1)
                    self.assertEqual(node.decorator_list + node.keywords, [])
                    others = [row for row in node.body if not isinstance(row, (ast.FunctionDef, ast.Expr))]
                    self.assertEqual(others, [])

    def test_python_s_own_names(self):
        found = [(name, node.lineno, node.id) for name, node in nodes()
                 if isinstance(node, ast.Name) and node.id in PYTHONS_NAMES and node.id not in OWN_NAMES]
        self.assertEqual(found, [])

    def test_locals_are_called_like_nothing_else(self):
        for name, tree in trees():
            with self.subTest(name=name):
                self.assertEqual(given_names(tree) & (taken_names(tree) | PYTHONS_NAMES), set())

    def test_no_name_begins_with_an_underscore(self):
        names = [(name, node.name) for name, node in nodes() if isinstance(node, (ast.FunctionDef, ast.ClassDef))]
        names += [(name, called) for name, tree in trees() for called in given_names(tree)]
        names += [("a value", called) for called in own_values()]
        found = [(name, called) for name, called in names if called[0] == "_" and called not in TWO_UNDERSCORES]
        self.assertEqual(found, [])

    def test_no_name_is_a_method_and_a_value(self):
        self.assertEqual(own_methods() & own_values(), set())

    def test_what_is_asked_of_things(self):
        known = own_methods() | own_values() | set(VALUES_METHODS)
        found = [(name, node.lineno, node.attr) for name, node in nodes()
                 if isinstance(node, ast.Attribute) and node.attr not in known]
        self.assertEqual(found, [])

    def test_what_is_deleted(self):
        found = [(name, node.lineno) for name, node in nodes() if isinstance(node, ast.Delete)
                 for target in node.targets if not isinstance(target, (ast.Name, ast.Subscript))]
        self.assertEqual(found, [])

    def test_no_two_files_draw_from_one_another(self):
        draws = {name[:-3]: {node.module.split(".")[1] for node in tree.body if isinstance(node, ast.ImportFrom)}
                 for name, tree in trees()}
        while draws:
            free = [name for name in draws if not draws[name] & set(draws)]
            self.assertNotEqual(free, [], f"these draw from one another: {sorted(draws)}")
            draws = {name: draws[name] for name in draws if name not in free}

    def test_no_text_bears_a_percent_sign(self):
        found = [(name, node.lineno) for name, node in nodes()
                 if isinstance(node, ast.Constant) and isinstance(node.value, str) and "%" in node.value]
        self.assertEqual(found, [])

    def test_is_stands_beside_none_true_and_false_alone(self):
        for name, node in nodes():
            if isinstance(node, ast.Compare) and isinstance(node.ops[0], (ast.Is, ast.IsNot)):
                with self.subTest(name=name, line=node.lineno):
                    self.assertIn(ast.unparse(node.comparators[0]), ["None", "True", "False"])


if __name__ == "__main__":
    unittest.main()
