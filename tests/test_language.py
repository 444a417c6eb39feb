"""Tests that the files of the package keep to the limits of the language it is written in."""

import ast
import builtins
import pathlib
import re
import unittest

PACKAGE = pathlib.Path(__file__).resolve().parent.parent / "bestheard"
FILES = sorted(PACKAGE.rglob("*.py"))

BUILTINS = set("""len range enumerate zip min max sum abs sorted reversed int str bool list tuple dict
set frozenset isinstance ord repr any all divmod pow iter next map super property staticmethod
classmethod Exception ValueError TypeError KeyError IndexError LookupError ZeroDivisionError
ArithmeticError OverflowError RuntimeError NotImplementedError AttributeError StopIteration
NotImplemented""".split())
LIBRARY = {
    "heapq": {"heappush", "heappop", "heapify", "heapreplace", "heappushpop"},
    "math": {"gcd", "lcm", "isqrt", "comb", "perm", "factorial"},
    "itertools": {"product", "combinations", "permutations", "chain", "accumulate", "pairwise",
                  "islice", "zip_longest"},
    "collections": {"defaultdict"},
}
METHODS = set("""append clear copy count endswith extend find get index insert isalnum isalpha
isdigit islower isspace isupper items join keys ljust lower lstrip partition pop remove replace
reverse rfind rjust rpartition rsplit rstrip setdefault split splitlines startswith strip update
upper values zfill bit_length title capitalize swapcase casefold center expandtabs removeprefix
removesuffix rindex isascii isdecimal isnumeric istitle isidentifier isprintable add discard sort
__init__""".split())
WORDS_BARRED = set("""type typing typing_extensions enum Enum IntEnum StrEnum Flag IntFlag Generic Protocol
ABC ABCMeta namedtuple NamedTuple TypedDict TYPE_CHECKING abstractmethod dataclass overload
contextmanager""".split())
NAMES_BARRED = set("""register mro elements open input law version_info with_traceback add_note""".split())
BARRED = WORDS_BARRED | NAMES_BARRED | set("""attrgetter breakpoint builtins compile copyright credits delattr dir
eval exec exit gc getattr globals hasattr help id importlib license locals methodcaller os quit setattr super
vars sys""".split())
BARRED_NODES = (ast.Global, ast.AsyncFunctionDef, ast.Await, ast.AsyncFor, ast.AsyncWith, ast.Div,
                ast.Import, ast.TryStar)
DECORATORS = "^(property|staticmethod|classmethod|[a-z_]+[.]setter)$"
SPECIAL = set("""__init__ __eq__ __repr__ __str__ __len__ __enter__ __exit__ __call__ __iter__ __bool__
__contains__ __getitem__ __setitem__ __or__ __ior__""".split())
# A doctest leaves a builtin of this name behind.
BUILTIN_NAMES = set(dir(builtins)) - {"_"}
CHANGING = set("append clear extend insert pop remove reverse setdefault update add discard sort".split())
TAKE_LISTS = ("any", "all", "min", "max", "sum", "sorted")
ATTRIBUTES_BARRED = set("""items keys values pop update append clear extend insert remove reverse setdefault
sort args encode decode hex fromhex format format_map mro""".split())


def nodes(path, *kinds):
    tree = ast.parse(path.read_text())
    return [node for node in ast.walk(tree) if isinstance(node, kinds)]


def own_names():
    """Return the names of all functions, methods and classes of the package."""
    kinds = (ast.FunctionDef, ast.ClassDef)
    return {node.name for path in FILES for node in nodes(path, *kinds)}


def gone_over(node):
    """Return the nodes of what a loop goes over: itself, or what is in a call like enumerate(..) or ..items()."""
    if not isinstance(node, ast.Call):
        return [node]
    if isinstance(node.func, ast.Attribute):
        return [node.func.value]
    return [] if node.func.id == "list" else node.args


def bound_names(path):
    """Return the names that a file gives a meaning: variables, parameters, functions, classes."""
    names = [node.id for node in nodes(path, ast.Name) if not isinstance(node.ctx, ast.Load)]
    names += [node.arg for node in nodes(path, ast.arg)]
    names += [node.name for node in nodes(path, ast.FunctionDef, ast.ClassDef)]
    return names


class FilesTest(unittest.TestCase):
    def test_the_folder_holds_only_files_of_python(self):
        self.assertIn(PACKAGE / "__init__.py", FILES)
        found = [path for path in PACKAGE.rglob("*") if "__pycache__" not in path.parts]
        self.assertEqual([path for path in found if path.is_file() and path.suffix != ".py"], [])
        for path in FILES:
            self.assertFalse(path.name.startswith(("test", "law_", "conftest", "site")), path)

    def test_sizes_and_characters(self):
        for path in FILES:
            lines = path.read_text(encoding="ascii").split("\n")
            self.assertLessEqual(len(lines) - 1, 399, path)
            for line in lines:
                self.assertLessEqual(len(line), 120, (path, line))
                self.assertTrue(all(" " <= character <= "~" for character in line), (path, line))

    def test_functions_are_short(self):
        for path in FILES:
            for node in nodes(path, ast.FunctionDef):
                self.assertLessEqual(node.end_lineno - node.lineno + 1, 40, (path, node.name))

    def test_imports(self):
        for path in FILES:
            for node in nodes(path, ast.ImportFrom):
                self.assertEqual(node.level, 0)
                names = {alias.name for alias in node.names}
                if node.module in LIBRARY:
                    self.assertLessEqual(names, LIBRARY[node.module], path)
                    continue
                self.assertTrue(node.module.startswith("bestheard."), (path, node.module))
                source = PACKAGE.parent / (node.module.replace(".", "/") + ".py")
                self.assertLessEqual(names, set(bound_names(source)), path)


class WordsTest(unittest.TestCase):
    def test_statements(self):
        for path in FILES:
            self.assertEqual(nodes(path, *BARRED_NODES), [], path)
            for node in nodes(path, ast.FunctionDef):
                for over in node.decorator_list:
                    self.assertRegex(ast.unparse(over), DECORATORS)

    def test_only_some_builtins_are_used(self):
        for path in FILES:
            used = {node.id for node in nodes(path, ast.Name) if node.id in BUILTIN_NAMES}
            self.assertLessEqual(used, BUILTINS, path)

    def test_no_name_is_that_of_a_builtin_or_barred(self):
        methods = {node.name for path in FILES for holder in nodes(path, ast.ClassDef)
                   for node in holder.body if isinstance(node, ast.FunctionDef)}
        for path in FILES:
            for name in bound_names(path):
                self.assertTrue(name in methods or name not in BUILTIN_NAMES, (path, name))
                self.assertNotIn(name, BARRED, path)

    def test_only_some_methods_are_called(self):
        allowed = METHODS | own_names()
        for path in FILES:
            for node in nodes(path, ast.Call):
                if isinstance(node.func, ast.Attribute):
                    self.assertIn(node.func.attr, allowed, (path, node.lineno))

    def test_literals(self):
        for path in FILES:
            for node in nodes(path, ast.Constant):
                self.assertIsInstance(node.value, (int, str, bytes, type(None)), path)
                if isinstance(node.value, str):
                    self.assertNotIn("%", node.value, path)
            text = re.sub('"""[^"]*"""', "", path.read_text())
            rows = [line.partition("#")[0] for line in text.split("\n")]
            words = re.findall("[A-Za-z_]+", "\n".join(rows))
            self.assertEqual(WORDS_BARRED & set(words), set(), path)

    def test_attributes_and_keywords(self):
        for path in FILES:
            names = {node.attr for node in nodes(path, ast.Attribute)} | {node.arg for node in nodes(path, ast.keyword)}
            self.assertEqual(NAMES_BARRED & names, set(), path)
            self.assertEqual({name for name in names if name and name.startswith("__")}, set(), path)


class ClassesTest(unittest.TestCase):
    def classes(self):
        """Return triples (path, class, list of its functions)."""
        return [(path, holder, [node for node in holder.body if isinstance(node, ast.FunctionDef)])
                for path in FILES for holder in nodes(path, ast.ClassDef)]

    def test_double_underscore_methods(self):
        for path, holder, methods in self.classes():
            names = [node.name for node in methods]
            self.assertLessEqual({name for name in names if name.startswith("__")}, SPECIAL, (path, holder.name))
            self.assertTrue("__getitem__" not in names or "__iter__" in names, (path, holder.name))
            self.assertEqual(holder.decorator_list, [])

    def test_no_name_is_a_method_and_an_attribute_of_a_class(self):
        for path, holder, methods in self.classes():
            found = {node.attr for node in ast.walk(holder) if isinstance(node, ast.Attribute)
                     and isinstance(node.ctx, ast.Store)}
            setters = {node.name for node in methods if "setter" in "".join(map(ast.unparse, node.decorator_list))}
            self.assertEqual(found & ({node.name for node in methods} - setters), set(), (path, holder.name))
            self.assertEqual(found & ATTRIBUTES_BARRED, set(), (path, holder.name))

    def test_nothing_is_called_keys_beside_getitem(self):
        for path in FILES:
            text = path.read_text()
            for word in ("(type)", "Meta", "metaclass="):
                self.assertNotIn(word, text, path)
            self.assertNotIn("keys", [node.name for node in nodes(path, ast.FunctionDef)])

    def test_methods_are_read_off_no_class(self):
        names = {holder.name for _, holder, _ in self.classes()}
        static = {node.name for _, _, methods in self.classes() for node in methods if node.decorator_list}
        for path in FILES:
            for node in nodes(path, ast.Attribute):
                if isinstance(node.value, ast.Name) and node.value.id in names:
                    self.assertTrue(node.attr in static or node.attr.isupper(), (path, node.lineno))


class FormsTest(unittest.TestCase):
    def test_module_level(self):
        kinds = (ast.Expr, ast.ImportFrom, ast.FunctionDef, ast.ClassDef, ast.Assign)
        for path in FILES:
            for node in ast.parse(path.read_text()).body:
                self.assertIsInstance(node, kinds, path)
                if isinstance(node, ast.Assign):
                    ast.literal_eval(node.value)
                    self.assertEqual(len(node.targets), 1)

    def test_imports_make_no_circle(self):
        imports = {f"bestheard.{path.stem}": [node.module for node in nodes(path, ast.ImportFrom)] for path in FILES}

        def reached(module, path):
            self.assertNotIn(module, path)
            for other in imports.get(module, []):
                reached(other, [*path, module])

        for module in imports:
            reached(module, [])

    def test_lists_are_taken_instead_of_generator_expressions(self):
        for path in FILES:
            for node in nodes(path, ast.Call):
                if isinstance(node.func, ast.Name) and node.func.id in TAKE_LISTS:
                    self.assertFalse(any(isinstance(item, ast.GeneratorExp) for item in node.args), (path, node.lineno))
                if isinstance(node.func, ast.Attribute):
                    self.assertNotEqual(node.func.attr, "sort", (path, node.lineno))

    def test_is_stands_beside_constants(self):
        for path in FILES:
            for node in nodes(path, ast.Compare):
                for sign, other in zip(node.ops, node.comparators):
                    if isinstance(sign, (ast.Is, ast.IsNot)):
                        self.assertIn(ast.unparse(other), ("None", "True", "False"), (path, node.lineno))

    def test_no_local_name_is_that_of_an_import_or_a_class(self):
        for path in FILES:
            taken = {alias.asname or alias.name for node in nodes(path, ast.ImportFrom) for alias in node.names}
            taken |= {node.name for node in nodes(path, ast.ClassDef)}
            local = {node.id for node in nodes(path, ast.Name) if not isinstance(node.ctx, ast.Load)}
            local |= {node.arg for node in nodes(path, ast.arg)}
            self.assertEqual(taken & local, set(), path)

    def test_methods_are_called_where_they_stand(self):
        methods = {node.name for path in FILES for holder in nodes(path, ast.ClassDef) for node in holder.body
                   if isinstance(node, ast.FunctionDef) and not node.decorator_list}
        for path in FILES:
            found = nodes(path, ast.Call, ast.Attribute)
            called = [node.func for node in found if isinstance(node, ast.Call)]
            for node in found:
                if isinstance(node, ast.Attribute) and node.attr in methods:
                    self.assertIn(node, called, (path, node.lineno, node.attr))

    def test_targets_have_at_most_one_pair_of_parentheses(self):
        for path in FILES:
            for node in nodes(path, ast.Tuple):
                if isinstance(node.ctx, ast.Store):
                    inner = [item for item in node.elts if isinstance(item, ast.Tuple)]
                    self.assertFalse(any(isinstance(part, ast.Tuple) for item in inner for part in item.elts), path)

    def test_one_lambda_on_a_line(self):
        for path in FILES:
            lines = [node.lineno for node in nodes(path, ast.Lambda)]
            self.assertEqual(len(set(lines)), len(lines), path)

    def test_loops_do_not_change_what_they_go_over(self):
        for path in FILES:
            for loop in nodes(path, ast.For):
                over = {node.id for node in gone_over(loop.iter) if isinstance(node, ast.Name)}
                for node in [inner for row in loop.body for inner in ast.walk(row)]:
                    if isinstance(node, ast.Call) and isinstance(node.func, ast.Attribute):
                        if node.func.attr in CHANGING and isinstance(node.func.value, ast.Name):
                            self.assertNotIn(node.func.value.id, over, (path, node.lineno))
                    if isinstance(node, ast.Subscript) and not isinstance(node.ctx, ast.Load):
                        if isinstance(node.value, ast.Name):
                            self.assertNotIn(node.value.id, over, (path, node.lineno))

    def test_operators_and_properties_change_nothing(self):
        for path in FILES:
            for node in nodes(path, ast.FunctionDef):
                over = [ast.unparse(item) for item in node.decorator_list]
                quiet = node.name.startswith("__") and node.name not in ("__init__", "__call__", "__setitem__", "__ior__")
                if not quiet and "property" not in over:
                    continue
                for inner in ast.walk(node):
                    if isinstance(inner, (ast.Attribute, ast.Subscript)):
                        self.assertIsInstance(inner.ctx, ast.Load, (path, node.name))
                    if isinstance(inner, ast.Call) and isinstance(inner.func, ast.Attribute):
                        self.assertNotIn(inner.func.attr, CHANGING, (path, node.name))

    def test_views_are_iterated_at_once(self):
        for path in FILES:
            tree = ast.parse(path.read_text())
            over = [node.iter for node in ast.walk(tree) if isinstance(node, (ast.For, ast.comprehension))]
            for node in ast.walk(tree):
                if isinstance(node, ast.Call) and isinstance(node.func, ast.Name):
                    over += node.args[:1] if node.func.id in ("list", "tuple", "dict", *TAKE_LISTS) else []
                    over += node.args if node.func.id in ("zip", "enumerate") else []
            for node in ast.walk(tree):
                if isinstance(node, ast.Call) and isinstance(node.func, ast.Attribute) and not node.args:
                    if node.func.attr in ("items", "values", "keys"):
                        self.assertIn(node, over, (path, node.lineno))
                if isinstance(node, ast.Call) and isinstance(node.func, ast.Name):
                    if node.func.id in ("zip", "enumerate", "reversed", "range"):
                        self.assertIn(node, over, (path, node.lineno))


if __name__ == "__main__":
    unittest.main()
