"""Rules of ../shared/LANGUAGE.md that can be read off the package's files."""

import ast
import builtins
import os
import re
import unittest

PACKAGE = os.path.join(os.path.dirname(os.path.dirname(os.path.abspath(__file__))), "farbooks")

ALLOWED_BUILTINS = set("""
    len range enumerate zip min max sum abs sorted reversed int str bool bytes list tuple dict set frozenset isinstance
    ord repr any all divmod iter next super property staticmethod classmethod Exception ValueError TypeError KeyError
    IndexError LookupError ZeroDivisionError ArithmeticError OverflowError RuntimeError NotImplementedError
    AttributeError StopIteration NotImplemented
""".split())

ALLOWED_METHODS = set("""
    append clear copy count endswith extend find get index insert isalnum isalpha isdigit islower isspace isupper items
    join keys ljust lower lstrip partition pop remove replace reverse rfind rjust rpartition rsplit rstrip setdefault
    split splitlines startswith strip update upper values zfill bit_length sort add discard
    title capitalize swapcase casefold center expandtabs removeprefix removesuffix rindex isascii isdecimal isnumeric
    istitle isidentifier isprintable translate encode
""".split())

BARRED_WORDS = set("""
    type typing typing_extensions enum Enum IntEnum StrEnum Flag IntFlag Generic Protocol ABC ABCMeta namedtuple
    NamedTuple TypedDict TYPE_CHECKING abstractmethod
""".split())

BARRED_NAMES = set("""
    register mro elements open input law version_info with_traceback add_note attrgetter breakpoint builtins compile
    copyright credits delattr dir eval exec exit gc getattr globals hasattr help id importlib license locals
    methodcaller os quit setattr type vars sys format format_map
""".split())

BARRED_NODES = (
    ast.Global, ast.AsyncFunctionDef, ast.AsyncFor, ast.AsyncWith, ast.Await, ast.Import, ast.Div, ast.MatMult,
)

MODULE_LEVEL = (ast.ImportFrom, ast.FunctionDef, ast.ClassDef, ast.Assign, ast.Expr)


def files():
    return sorted(name for name in os.listdir(PACKAGE) if name != "__pycache__")


def text_of(name):
    with open(os.path.join(PACKAGE, name), encoding="utf-8") as file:
        return file.read()


def trees():
    return {name: ast.parse(text_of(name)) for name in files()}


def nodes():
    return [(name, node) for name, tree in trees().items() for node in ast.walk(tree)]


def names_bound(node):
    """The names that a node binds or uses as its own."""
    if isinstance(node, (ast.FunctionDef, ast.ClassDef)):
        return [node.name]
    if isinstance(node, ast.arg):
        return [node.arg]
    if isinstance(node, ast.Name) and isinstance(node.ctx, ast.Store):
        return [node.id]
    if isinstance(node, (ast.MatchAs, ast.MatchStar, ast.ExceptHandler)):
        return [node.name] if node.name else []
    return []


def methods_of(owner):
    return {node.name for node in owner.body if isinstance(node, ast.FunctionDef)}


def classes():
    return [node for name, node in nodes() if isinstance(node, ast.ClassDef)]


def attributes_assigned():
    return {
        node.attr for name, node in nodes() if isinstance(node, ast.Attribute) and isinstance(node.ctx, ast.Store)
    }


class Files(unittest.TestCase):

    def test_plain_python_files_alone(self):
        self.assertIn("__init__.py", files())
        for name in files():
            self.assertRegex(name, r"^([a-z][a-z0-9_]*|__init__|__main__)\.py$")
            self.assertFalse(name.startswith("test"), name)

    def test_characters_and_sizes(self):
        for name in files():
            text = text_of(name)
            self.assertTrue(all(sign == "\n" or " " <= sign <= "~" for sign in text), name)
            rows = text.split("\n")
            self.assertLessEqual(len(rows), 399, name)
            for row in rows:
                self.assertLessEqual(len(row), 120, (name, row))

    def test_functions_are_short(self):
        for name, node in nodes():
            if isinstance(node, ast.FunctionDef):
                self.assertLessEqual(node.end_lineno - node.lineno + 1, 40, (name, node.name))

    def test_words_that_do_not_occur(self):
        for name in files():
            words = re.findall(r"\w+", text_of(name))
            self.assertEqual(BARRED_WORDS.intersection(words), set(), name)
            for part in ("dataclass", "overload", "contextmanager"):
                self.assertNotIn(part, text_of(name))


class Modules(unittest.TestCase):

    def test_module_level(self):
        for name, tree in trees().items():
            for place, node in enumerate(tree.body):
                self.assertIsInstance(node, MODULE_LEVEL, name)
                if isinstance(node, ast.Expr):
                    self.assertEqual(place, 0, name)
                    self.assertIsInstance(node.value.value, str)

    def test_imports_name_the_file_that_defines(self):
        for name, node in nodes():
            if isinstance(node, ast.ImportFrom):
                package, module = node.module.split(".")
                self.assertEqual((package, node.level), ("farbooks", 0), name)
                defined = {bound for part in trees()[module + ".py"].body for bound in self.defined_by(part)}
                for alias in node.names:
                    self.assertIn(alias.name, defined, name)

    def defined_by(self, part):
        if isinstance(part, ast.Assign):
            return [target.id for target in part.targets]
        return [part.name] if isinstance(part, (ast.FunctionDef, ast.ClassDef)) else []

    def test_no_two_files_import_from_each_other(self):
        below = {
            name: {node.module.split(".")[1] + ".py" for node in tree.body if isinstance(node, ast.ImportFrom)}
            for name, tree in trees().items()
        }
        while below:
            free = [name for name in below if not below[name]]
            self.assertNotEqual(free, [], below)
            below = {name: below[name].difference(free) for name in below if name not in free}


class Names(unittest.TestCase):

    def test_names_bound(self):
        for name, node in nodes():
            for bound in names_bound(node):
                if bound == "__init__":
                    continue
                self.assertFalse(bound.startswith("_"), (name, bound))
                self.assertNotIn(bound, BARRED_NAMES, name)
                self.assertFalse(hasattr(builtins, bound), (name, bound))

    def test_builtins_used(self):
        for name, node in nodes():
            if isinstance(node, ast.Name) and hasattr(builtins, node.id):
                self.assertIn(node.id, ALLOWED_BUILTINS, name)

    def test_attributes(self):
        own = set().union(*[methods_of(owner) for owner in classes()])
        assigned = attributes_assigned()
        self.assertEqual(own.intersection(assigned), set())
        for name, node in nodes():
            if isinstance(node, ast.Attribute):
                self.assertNotIn(node.attr, BARRED_NAMES, name)
                self.assertIn(node.attr, own | assigned | ALLOWED_METHODS | {"__init__"}, name)

    def test_no_method_is_defined_twice(self):
        for owner in classes():
            defined = [node.name for node in owner.body if isinstance(node, ast.FunctionDef)]
            self.assertEqual(len(defined), len(set(defined)), owner.name)


class Code(unittest.TestCase):

    def test_statements_and_signs_that_are_not_used(self):
        for name, node in nodes():
            self.assertNotIsInstance(node, BARRED_NODES, name)
            self.assertFalse(isinstance(node, ast.Constant) and isinstance(node.value, (float, complex)), name)

    def test_is_stands_only_with_none_true_and_false(self):
        for name, node in nodes():
            if isinstance(node, ast.Compare) and isinstance(node.ops[0], (ast.Is, ast.IsNot)):
                other = node.comparators[0]
                self.assertIsInstance(other, ast.Constant, name)
                self.assertTrue(other.value is None or isinstance(other.value, bool), name)

    def test_strings(self):
        for name, node in nodes():
            if isinstance(node, ast.Constant) and isinstance(node.value, str):
                self.assertNotIn("%", node.value, name)
            if isinstance(node, ast.Constant) and isinstance(node.value, bytes):
                self.fail(name)


if __name__ == "__main__":
    unittest.main()
