"""The package keeps to the language rules that can be told from its text alone.

The rules are those of ../shared/LANGUAGE.md; a rule that is not looked at here still applies.
"""

import ast
import builtins
import re
import unittest
import warnings
from pathlib import Path

PACKAGE = Path(__file__).resolve().parent.parent / "liveclaims"
ALLOWED_BUILTINS = set("""
    len range enumerate zip min max sum abs sorted reversed int str bool bytes list tuple dict set frozenset isinstance
    ord repr any all divmod iter next Exception ValueError TypeError KeyError IndexError LookupError ZeroDivisionError
    ArithmeticError OverflowError RuntimeError NotImplementedError AttributeError StopIteration NotImplemented super
    property staticmethod classmethod object float
""".split())
ALLOWED_METHODS = set("""
    append clear copy count endswith extend find get index insert isalnum isalpha isdigit islower isspace isupper items
    join keys ljust lower lstrip partition pop remove replace reverse rfind rjust rpartition rsplit rstrip setdefault
    split splitlines startswith strip update upper values zfill bit_length
    title capitalize swapcase casefold center expandtabs removeprefix removesuffix rindex isascii isdecimal isnumeric
    istitle isidentifier isprintable translate
""".split())
BARRED_WORDS = """
    type typing typing_extensions enum Enum IntEnum StrEnum Flag IntFlag Generic Protocol ABC ABCMeta namedtuple
    NamedTuple TypedDict TYPE_CHECKING abstractmethod
""".split()
BARRED_NAMES = set("register mro elements open input version_info with_traceback add_note".split())
BARRED_STATEMENTS = (ast.Global, ast.AsyncFunctionDef, ast.AsyncFor, ast.AsyncWith, ast.Await, ast.Import)
FUNCTIONS = (ast.FunctionDef, ast.Lambda)
SPECIAL_METHOD = re.compile("__[a-z]+__")


def files():
    return sorted(PACKAGE.glob("*.py"))


def tree_of(file):
    return ast.parse(file.read_text(encoding="utf-8"))


def nodes(kind):
    return [(file.name, node) for file in files() for node in ast.walk(tree_of(file)) if isinstance(node, kind)]


def bound_names(node):
    if isinstance(node, (ast.FunctionDef, ast.ClassDef)):
        return [node.name]
    if isinstance(node, ast.arg):
        return [node.arg]
    if isinstance(node, ast.Attribute):
        return [node.attr]
    if isinstance(node, ast.Name) and isinstance(node.ctx, ast.Store):
        return [node.id]
    return []


def calls(node, names):
    return isinstance(node, ast.Call) and isinstance(node.func, ast.Name) and node.func.id in names


def names_bound_by(node):
    """The names that a statement at module level defines, imports left out."""
    if isinstance(node, (ast.FunctionDef, ast.ClassDef)):
        return [node.name]
    if isinstance(node, ast.Assign):
        return [target.id for target in node.targets]
    return []


class TestText(unittest.TestCase):
    def test_only_files_of_the_language(self):
        for path in PACKAGE.iterdir():
            if path.name != "__pycache__":
                self.assertRegex(path.name, r"\A[a-z0-9_]+\.py\Z")
        self.assertIn(PACKAGE / "__init__.py", files())

    def test_sizes(self):
        for file in files():
            lines = file.read_text(encoding="utf-8").split("\n")
            self.assertLessEqual(len(lines), 401, file.name)
            for at, line in enumerate(lines, start=1):
                self.assertLessEqual(len(line), 120, (file.name, at))
        for name, node in nodes(ast.FunctionDef):
            self.assertLessEqual(node.end_lineno - node.lineno + 1, 40, (name, node.name))

    def test_characters(self):
        for file in files():
            self.assertRegex(file.read_text(encoding="utf-8"), r"\A[ -~\n]*\Z", file.name)

    def test_barred_words(self):
        for file in files():
            text = file.read_text(encoding="utf-8")
            for word in BARRED_WORDS:
                self.assertIsNone(re.search(r"\b" + word + r"\b", text), (file.name, word))
            for word in ("dataclass", "overload", "contextmanager"):
                self.assertNotIn(word, text, file.name)

    def test_python_gives_no_warning(self):
        with warnings.catch_warnings():
            warnings.simplefilter("error")
            for file in files():
                compile(file.read_text(encoding="utf-8"), file.name, "exec")


class TestNames(unittest.TestCase):
    def test_imports(self):
        for name, node in nodes(ast.ImportFrom):
            self.assertEqual(node.level, 0, name)
            self.assertTrue(node.module == "__future__" or node.module.startswith("liveclaims."), (name, node.module))
            self.assertNotIn("*", [alias.name for alias in node.names], name)

    def test_imports_name_the_file_that_defines_them(self):
        defined = {}
        for file in files():
            tree = tree_of(file)
            defined["liveclaims." + file.stem] = {name for node in tree.body for name in names_bound_by(node)}
        for name, node in nodes(ast.ImportFrom):
            if node.module != "__future__":
                for alias in node.names:
                    self.assertIn(alias.name, defined[node.module], (name, node.lineno))
                    self.assertIsNone(alias.asname, (name, node.lineno))

    def test_no_two_files_import_from_each_other(self):
        needs = {}
        for file in files():
            found = [node.module for node in tree_of(file).body if isinstance(node, ast.ImportFrom)]
            needs["liveclaims." + file.stem] = [module for module in found if module != "__future__"]
        while needs:
            ready = [module for module in needs if not any(other in needs for other in needs[module])]
            self.assertNotEqual(ready, [], sorted(needs))
            for module in ready:
                del needs[module]

    def test_one_binding_for_each_name(self):
        for file in files():
            tree = tree_of(file)
            bound = [name for node in tree.body for name in names_bound_by(node)]
            bound += [alias.name for node in tree.body if isinstance(node, ast.ImportFrom) for alias in node.names]
            self.assertEqual(len(bound), len(set(bound)), file.name)

    def test_no_local_name_is_that_of_a_class_or_an_import(self):
        for file in files():
            tree = tree_of(file)
            taken = {alias.name for node in ast.walk(tree) if isinstance(node, ast.ImportFrom) for alias in node.names}
            taken |= {node.name for node in tree.body if isinstance(node, ast.ClassDef)}
            for node in ast.walk(tree):
                if isinstance(node, ast.Name) and isinstance(node.ctx, ast.Store):
                    self.assertNotIn(node.id, taken, (file.name, node.lineno))
                if isinstance(node, ast.arg):
                    self.assertNotIn(node.arg, taken, (file.name, node.lineno))

    def test_builtins(self):
        known = {name for name in dir(builtins) if not name.startswith("_")}
        for name, node in nodes(ast.Name):
            if node.id in known:
                self.assertIn(node.id, ALLOWED_BUILTINS, (name, node.lineno))
                self.assertIsInstance(node.ctx, ast.Load, (name, node.lineno))
        for name, node in nodes(ast.arg):
            self.assertNotIn(node.arg, known, (name, node.lineno))

    def test_plain_names(self):
        for name, node in nodes(ast.AST):
            for bound in bound_names(node):
                self.assertNotIn(bound, BARRED_NAMES, (name, node.lineno))
                if bound.startswith("_"):
                    self.assertRegex(bound, SPECIAL_METHOD, (name, node.lineno))

    def test_no_name_is_a_method_and_an_attribute(self):
        methods = {part.name for name, node in nodes(ast.ClassDef) for part in node.body
                   if isinstance(part, ast.FunctionDef)}
        attributes = {node.attr for name, node in nodes(ast.Attribute) if isinstance(node.ctx, ast.Store)}
        self.assertEqual(methods & attributes, set())


class TestExpressions(unittest.TestCase):
    def test_statements(self):
        self.assertEqual(nodes(BARRED_STATEMENTS), [])

    def test_no_float_and_no_division(self):
        self.assertEqual(nodes(ast.Div), [])
        for name, node in nodes(ast.Constant):
            self.assertNotIsInstance(node.value, (float, complex), name)
            if isinstance(node.value, str):
                self.assertNotIn("%", node.value, (name, node.lineno))

    def test_is_only_with_none_true_and_false(self):
        for name, node in nodes(ast.Compare):
            for sign, right in zip(node.ops, node.comparators):
                if isinstance(sign, (ast.Is, ast.IsNot)):
                    self.assertIsInstance(right, ast.Constant, (name, node.lineno))
                    self.assertIn(repr(right.value), ("None", "True", "False"), (name, node.lineno))

    def test_powers_have_literal_exponents(self):
        for name, node in nodes(ast.BinOp):
            if isinstance(node.op, ast.Pow):
                self.assertIsInstance(node.right, ast.Constant, (name, node.lineno))
                self.assertIn(node.right.value, range(65), (name, node.lineno))

    def test_lists_instead_of_generator_expressions(self):
        # A Register has __eq__, so these take lists.
        for name, node in nodes(ast.Call):
            if isinstance(node.func, ast.Name) and node.func.id in ("any", "all", "min", "max", "sum", "sorted"):
                for given in node.args:
                    self.assertNotIsInstance(given, ast.GeneratorExp, (name, node.lineno))

    def test_sets_stand_where_they_are_used(self):
        # A Register has a method add, so that no set is built up by that name: a set is sorted, counted or looked into.
        for file in files():
            tree = tree_of(file)
            allowed = set()
            for node in ast.walk(tree):
                if isinstance(node, ast.Call) and isinstance(node.func, ast.Name) and node.func.id in ("sorted", "len"):
                    allowed |= {id(given) for given in node.args}
                if isinstance(node, ast.Compare):
                    allowed |= {id(right) for right in node.comparators}
            for node in ast.walk(tree):
                made = isinstance(node, (ast.Set, ast.SetComp)) or calls(node, ("set", "frozenset"))
                self.assertTrue(not made or id(node) in allowed, (file.name, getattr(node, "lineno", None)))

    def test_iterated_at_once(self):
        for name, node in nodes((ast.Assign, ast.Return)):
            self.assertFalse(calls(node.value, ("zip", "enumerate", "reversed", "range")), (name, node.lineno))
            if isinstance(node.value, ast.Call) and isinstance(node.value.func, ast.Attribute):
                self.assertNotIn(node.value.func.attr, ("items", "keys", "values"), (name, node.lineno))

    def test_methods_of_builtin_values(self):
        own = {part.name for name, node in nodes(ast.ClassDef) for part in node.body if isinstance(part, ast.FunctionDef)}
        for name, node in nodes(ast.Call):
            if isinstance(node.func, ast.Attribute) and node.func.attr not in own:
                self.assertIn(node.func.attr, ALLOWED_METHODS, (name, node.lineno))

    def test_plain_defaults(self):
        for name, node in nodes(FUNCTIONS):
            for default in node.args.defaults + node.args.kw_defaults:
                self.assertNotIsInstance(default, (ast.List, ast.Dict, ast.Set, ast.Call), name)


if __name__ == "__main__":
    unittest.main()
