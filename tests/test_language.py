"""Tests that the files of the package keep to the limits of the language it is written in."""

import ast
import builtins
import pathlib
import re
import unittest

PACKAGE = pathlib.Path(__file__).resolve().parent.parent / "bestheard"
FILES = sorted(PACKAGE.rglob("*.py"))

BUILTINS = set("""len range enumerate zip min max sum abs sorted reversed int str bool list tuple dict
set frozenset isinstance ord repr any all divmod pow iter next map super property staticmethod
classmethod Exception ValueError TypeError KeyError IndexError LookupError ZeroDivisionError
ArithmeticError OverflowError RuntimeError NotImplementedError AttributeError StopIteration
NotImplemented""".split())
LIBRARY = {
    "heapq": {"heappush", "heappop", "heapify", "heapreplace", "heappushpop"},
    "math": {"gcd", "lcm", "isqrt", "comb", "perm", "factorial"},
    "itertools": {"product", "combinations", "permutations", "chain", "accumulate", "pairwise",
                  "islice", "zip_longest"},
    "collections": {"defaultdict"},
}
METHODS = set("""append clear copy count endswith extend find get index insert isalnum isalpha
isdigit islower isspace isupper items join keys ljust lower lstrip partition pop remove replace
reverse rfind rjust rpartition rsplit rstrip setdefault split splitlines startswith strip update
upper values zfill bit_length title capitalize swapcase casefold center expandtabs removeprefix
removesuffix rindex isascii isdecimal isnumeric istitle isidentifier isprintable add discard sort
__init__""".split())
BARRED = set("""type typing enum Enum IntEnum StrEnum Flag IntFlag Generic Protocol ABC ABCMeta
namedtuple NamedTuple TypedDict abstractmethod register mro elements open input law version_info
with_traceback add_note eval exec globals locals vars id dir help exit quit compile""".split())
BARRED_NODES = (ast.Global, ast.AsyncFunctionDef, ast.Await, ast.AsyncFor, ast.AsyncWith, ast.Div,
                ast.Import, ast.TryStar)
DECORATORS = "^(property|staticmethod|classmethod|[a-z_]+[.]setter)$"


def nodes(path, *kinds):
    tree = ast.parse(path.read_text())
    return [node for node in ast.walk(tree) if isinstance(node, kinds)]


def own_names():
    """Return the names of all functions, methods and classes of the package."""
    kinds = (ast.FunctionDef, ast.ClassDef)
    return {node.name for path in FILES for node in nodes(path, *kinds)}


def bound_names(path):
    """Return the names that a file gives a meaning: variables, parameters, functions, classes."""
    names = [node.id for node in nodes(path, ast.Name) if not isinstance(node.ctx, ast.Load)]
    names += [node.arg for node in nodes(path, ast.arg)]
    names += [node.name for node in nodes(path, ast.FunctionDef, ast.ClassDef)]
    return names


class FilesTest(unittest.TestCase):
    def test_the_folder_holds_only_files_of_python(self):
        self.assertIn(PACKAGE / "__init__.py", FILES)
        found = [path for path in PACKAGE.rglob("*") if "__pycache__" not in path.parts]
        self.assertEqual([path for path in found if path.is_file() and path.suffix != ".py"], [])
        for path in FILES:
            self.assertFalse(path.name.startswith(("test", "law_", "conftest", "site")), path)

    def test_sizes_and_characters(self):
        for path in FILES:
            lines = path.read_text(encoding="ascii").split("\n")
            self.assertLessEqual(len(lines) - 1, 399, path)
            for line in lines:
                self.assertLessEqual(len(line), 120, (path, line))
                self.assertTrue(all(" " <= character <= "~" for character in line), (path, line))

    def test_functions_are_short(self):
        for path in FILES:
            for node in nodes(path, ast.FunctionDef):
                self.assertLessEqual(node.end_lineno - node.lineno + 1, 40, (path, node.name))

    def test_imports(self):
        for path in FILES:
            for node in nodes(path, ast.ImportFrom):
                self.assertEqual(node.level, 0)
                names = {alias.name for alias in node.names}
                if node.module in LIBRARY:
                    self.assertLessEqual(names, LIBRARY[node.module], path)
                    continue
                self.assertTrue(node.module.startswith("bestheard."), (path, node.module))
                source = PACKAGE.parent / (node.module.replace(".", "/") + ".py")
                self.assertLessEqual(names, set(bound_names(source)), path)


class WordsTest(unittest.TestCase):
    def test_statements(self):
        for path in FILES:
            self.assertEqual(nodes(path, *BARRED_NODES), [], path)
            for node in nodes(path, ast.FunctionDef):
                for over in node.decorator_list:
                    self.assertRegex(ast.unparse(over), DECORATORS)

    def test_only_some_builtins_are_used(self):
        for path in FILES:
            used = {node.id for node in nodes(path, ast.Name) if hasattr(builtins, node.id)}
            self.assertLessEqual(used, BUILTINS, path)

    def test_no_name_is_that_of_a_builtin_or_barred(self):
        methods = {node.name for path in FILES for holder in nodes(path, ast.ClassDef)
                   for node in holder.body if isinstance(node, ast.FunctionDef)}
        for path in FILES:
            for name in bound_names(path):
                self.assertTrue(name in methods or not hasattr(builtins, name), (path, name))
                self.assertNotIn(name, BARRED, path)

    def test_only_some_methods_are_called(self):
        allowed = METHODS | own_names()
        for path in FILES:
            for node in nodes(path, ast.Call):
                if isinstance(node.func, ast.Attribute):
                    self.assertIn(node.func.attr, allowed, (path, node.lineno))

    def test_literals(self):
        for path in FILES:
            for node in nodes(path, ast.Constant):
                self.assertIsInstance(node.value, (int, str, bytes, type(None)), path)
                if isinstance(node.value, str):
                    self.assertNotIn("%", node.value, path)
            text = re.sub('"""[^"]*"""', "", path.read_text())
            rows = [line.partition("#")[0] for line in text.split("\n")]
            words = re.findall("[A-Za-z_]+", "\n".join(rows))
            self.assertEqual(BARRED & set(words), set(), path)


if __name__ == "__main__":
    unittest.main()
