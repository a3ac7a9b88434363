"""The rules of LANGUAGE.md that are easily seen in the files of the package."""

import ast
import builtins
import pathlib
import re
import unittest

PACKAGE = pathlib.Path(__file__).resolve().parent.parent / "onebend"

BUILTINS = set("""
    len range enumerate zip min max sum abs sorted reversed int str bool bytes list tuple dict set
    frozenset isinstance ord repr any all divmod Exception ValueError TypeError KeyError IndexError
    LookupError ZeroDivisionError ArithmeticError OverflowError RuntimeError NotImplementedError
    AttributeError StopIteration NotImplemented super property staticmethod classmethod
""".split())

BARRED_WORDS = set("""
    type typing typing_extensions enum Enum IntEnum StrEnum Flag IntFlag Generic Protocol ABC ABCMeta
    namedtuple NamedTuple TypedDict TYPE_CHECKING abstractmethod
""".split())

METHODS_OF_VALUES = set("""
    append clear copy count endswith extend find get index insert isalnum isalpha isdigit islower isspace
    isupper items join keys ljust lower lstrip partition pop remove replace reverse rfind rjust rpartition
    rsplit rstrip setdefault split splitlines startswith strip update upper values zfill bit_length
    title capitalize swapcase casefold center expandtabs removeprefix removesuffix rindex isascii isdecimal
    isnumeric istitle isidentifier isprintable
""".split())

# What numbers, texts, lists and the like have of their own.
NAMES_OF_VALUES = {name for kind in (str, int, list, dict, set, bytes, tuple) for name in dir(kind)}

BARRED_NODES = (
    ast.Global, ast.AsyncFunctionDef, ast.AsyncFor, ast.AsyncWith, ast.Await, ast.Import,
    ast.Div, ast.MatMult,
)


def bound_names(tree):
    """Each name that the file gives a meaning to, as often as it does."""
    for node in ast.walk(tree):
        if isinstance(node, (ast.FunctionDef, ast.ClassDef)):
            yield node.name
        elif isinstance(node, ast.arg):
            yield node.arg
        elif isinstance(node, ast.alias):
            yield node.asname or node.name
        elif isinstance(node, ast.Name) and isinstance(node.ctx, ast.Store):
            yield node.id


def bound_at_top(part):
    """The names that one statement at module level binds there."""
    if isinstance(part, (ast.FunctionDef, ast.ClassDef)):
        return [part.name]
    return list(bound_names(part))


def local_names(tree):
    for function in ast.walk(tree):
        if isinstance(function, ast.FunctionDef):
            for node in ast.walk(function):
                if isinstance(node, ast.arg):
                    yield node.arg
                elif isinstance(node, ast.Name) and isinstance(node.ctx, ast.Store):
                    yield node.id


def names_of_methods(tree):
    for node in ast.walk(tree):
        if isinstance(node, ast.ClassDef):
            yield from [part.name for part in node.body if isinstance(part, ast.FunctionDef)]


def names_of_attributes(tree):
    """Every attribute that is given a value."""
    for node in ast.walk(tree):
        if isinstance(node, ast.Attribute) and isinstance(node.ctx, ast.Store):
            yield node.attr


class Language(unittest.TestCase):

    def setUp(self):
        self.files = sorted(path for path in PACKAGE.rglob("*") if "__pycache__" not in path.parts)
        self.texts = {path.name: path.read_text("utf-8") for path in self.files}
        self.trees = {name: ast.parse(text) for name, text in self.texts.items()}

    def test_files(self):
        self.assertIn("__init__.py", self.texts)
        for name in self.texts:
            self.assertRegex(name, r"\A(__init__|[a-z][a-z0-9_]*)\.py\Z")
            self.assertNotIn(name[:-3], dir(builtins))

    def test_sizes_and_signs(self):
        for name, text in self.texts.items():
            lines = text.split("\n")
            self.assertRegex(text, r"\A[ -~\n]*\Z", name)
            self.assertLessEqual(len(lines), 400, name)
            self.assertLessEqual(max(len(line) for line in lines), 120, name)
            for node in ast.walk(self.trees[name]):
                if isinstance(node, ast.FunctionDef):
                    self.assertLessEqual(node.end_lineno - node.lineno + 1, 40, node.name)

    def test_words(self):
        for name, text in self.texts.items():
            self.assertEqual(set(re.findall(r"\w+", text)) & BARRED_WORDS, set(), name)
            self.assertNotRegex(text, "dataclass|overload|contextmanager", name)

    def test_imports_come_from_the_file_that_defines_the_name(self):
        for name, tree in self.trees.items():
            for node in ast.walk(tree):
                if isinstance(node, ast.ImportFrom):
                    self.assertEqual(node.level, 0, name)
                    package, source = node.module.split(".")
                    self.assertEqual(package, "onebend", name)
                    defined = {
                        bound for part in self.trees[source + ".py"].body
                        if not isinstance(part, ast.ImportFrom) for bound in bound_at_top(part)
                    }
                    for alias in node.names:
                        self.assertIn(alias.name, defined, name)

    def test_statements_and_values(self):
        for name, tree in self.trees.items():
            for node in ast.walk(tree):
                self.assertNotIsInstance(node, BARRED_NODES, name)
                if isinstance(node, ast.Constant):
                    self.assertNotIsInstance(node.value, (float, complex), name)
                    self.assertNotIn("%", str(node.value), name)
                if isinstance(node, ast.Compare):
                    for sign, other in zip(node.ops, node.comparators):
                        if isinstance(sign, (ast.Is, ast.IsNot)):
                            self.assertIn(ast.dump(other), [
                                ast.dump(ast.Constant(plain)) for plain in (None, True, False)
                            ], name)

    def test_names(self):
        for name, tree in self.trees.items():
            top = [bound for part in tree.body for bound in bound_at_top(part)]
            self.assertEqual(len(top), len(set(top)), name)
            for bound in bound_names(tree):
                self.assertRegex(bound, r"\A([A-Za-z]\w*|__\w+__)\Z", name)
            taken = set(dir(builtins)) | {
                alias.name for node in ast.walk(tree) if isinstance(node, ast.ImportFrom)
                for alias in node.names
            }
            self.assertEqual(set(local_names(tree)) & taken, set(), name)

    def test_methods_and_attributes(self):
        methods = [name for tree in self.trees.values() for name in names_of_methods(tree)]
        attributes = [name for tree in self.trees.values() for name in names_of_attributes(tree)]
        self.assertEqual(set(methods) & set(attributes), set())
        own = {name for name in methods if not name.startswith("__")}
        self.assertEqual((own | set(attributes)) & NAMES_OF_VALUES, set())
        for name, tree in self.trees.items():
            for node in ast.walk(tree):
                if isinstance(node, ast.Attribute):
                    self.assertIn(node.attr, METHODS_OF_VALUES | set(methods) | set(attributes), name)

    def test_what_is_iterated_at_once_is_not_kept(self):
        for name, tree in self.trees.items():
            for node in ast.walk(tree):
                if isinstance(node, (ast.Assign, ast.Return)) and isinstance(node.value, ast.Call):
                    called = node.value.func
                    word = called.id if isinstance(called, ast.Name) else called.attr
                    self.assertNotIn(
                        word, ["zip", "enumerate", "reversed", "range", "items", "keys", "values", "set"], name
                    )

    def test_builtins(self):
        for name, tree in self.trees.items():
            own = set(bound_names(tree))
            for node in ast.walk(tree):
                if isinstance(node, ast.Name) and node.id not in own:
                    self.assertIn(node.id, BUILTINS, name)


if __name__ == "__main__":
    unittest.main()
