"""The package keeps to LANGUAGE.md, as far as a plain look at its files can tell."""

import ast
import builtins
import re
import unittest
from pathlib import Path

PACKAGE = Path(__file__).resolve().parent.parent / "glidequeue"

BUILTINS = set(
    "len range enumerate zip min max sum abs sorted reversed int str bool bytes list tuple dict set frozenset"
    " isinstance ord repr any all divmod Exception ValueError TypeError KeyError IndexError LookupError"
    " ZeroDivisionError ArithmeticError OverflowError RuntimeError NotImplementedError AttributeError"
    " StopIteration".split())

METHODS = set(
    "append clear copy count endswith extend find get index insert isalnum isalpha isdigit islower isspace isupper"
    " items join keys ljust lower lstrip partition pop remove replace reverse rfind rjust rpartition rsplit rstrip"
    " setdefault split splitlines startswith strip update upper values zfill bit_length title capitalize swapcase"
    " casefold center expandtabs removeprefix removesuffix rindex isascii isdecimal isnumeric istitle isidentifier"
    " isprintable translate sort add discard __init__".split())

BARRED_WORDS = re.compile(
    r"\b(type|typing|typing_extensions|enum|Enum|IntEnum|StrEnum|Flag|IntFlag|Generic|Protocol|ABC|ABCMeta"
    r"|namedtuple|NamedTuple|TypedDict|TYPE_CHECKING|abstractmethod)\b|dataclass|overload|contextmanager")

BARRED_NAMES = set(
    "register mro elements open input version_info with_traceback add_note attrgetter breakpoint builtins compile"
    " copyright credits delattr dir eval exec exit gc getattr globals hasattr help id importlib license locals"
    " methodcaller os quit setattr super type vars sys format format_map chr print".split())

SPECIAL_METHODS = {"__init__", "__eq__", "__repr__", "__str__", "__len__"}

BARRED_NODES = (
    ast.With, ast.Match, ast.Global, ast.Nonlocal, ast.Yield, ast.YieldFrom, ast.Await, ast.AsyncFor,
    ast.AsyncFunctionDef, ast.AsyncWith, ast.GeneratorExp, ast.NamedExpr, ast.Div, ast.MatMult, ast.Import,
)


def names_bound_by(node):
    """The names that a node of a module's tree gives a meaning."""
    if isinstance(node, (ast.FunctionDef, ast.ClassDef)):
        return [node.name]
    if isinstance(node, ast.arg):
        return [node.arg]
    if isinstance(node, ast.alias):
        return [node.asname or node.name]
    if isinstance(node, ast.ExceptHandler) and node.name:
        return [node.name]
    if isinstance(node, ast.Name) and isinstance(node.ctx, ast.Store):
        return [node.id]
    return []


def top_names(tree):
    """The names that a module defines itself at its top."""
    names = []
    for node in tree.body:
        if isinstance(node, ast.Assign):
            names += [target.id for target in node.targets]
        elif isinstance(node, (ast.FunctionDef, ast.ClassDef)):
            names.append(node.name)
    return names


class Language(unittest.TestCase):

    def setUp(self):
        self.files = sorted(path for path in PACKAGE.rglob("*") if "__pycache__" not in path.parts)
        self.texts = {path: path.read_text("utf-8") for path in self.files if path.is_file()}
        self.trees = {path: ast.parse(text) for path, text in self.texts.items()}

    def nodes(self):
        for path, tree in self.trees.items():
            for node in ast.walk(tree):
                yield f"{path.name}:{getattr(node, 'lineno', 0)}", node

    def test_files_have_plain_names(self):
        for path in self.files:
            self.assertTrue(path.is_file(), path)
            self.assertRegex(path.name, r"^(__init__|[a-z][a-z0-9_]*)\.py$")
            self.assertFalse(path.stem in dir(builtins) or path.stem.startswith(("test", "law_")), path)

    def test_init_has_a_sentence_alone(self):
        body = self.trees[PACKAGE / "__init__.py"].body
        self.assertEqual(len(body), 1)
        self.assertIsInstance(body[0].value.value, str)

    def test_characters_and_words(self):
        for path, text in self.texts.items():
            self.assertEqual([sign for sign in text if sign != "\n" and not " " <= sign <= "~"], [], path)
            self.assertIsNone(BARRED_WORDS.search(text), path)

    def test_sizes(self):
        for path, text in self.texts.items():
            lines = text.split("\n")
            self.assertLessEqual(len(lines), 400, path)
            self.assertLessEqual(max(len(line) for line in lines), 120, path)
        for where, node in self.nodes():
            if isinstance(node, ast.FunctionDef):
                self.assertLessEqual(node.end_lineno - node.lineno + 1, 40, where)

    def test_module_level(self):
        for path, tree in self.trees.items():
            names = [name for node in tree.body for name in names_bound_by(node)] + top_names(tree)
            for at, node in enumerate(tree.body):
                docstring = at == 0 and isinstance(node, ast.Expr) and isinstance(node.value, ast.Constant)
                allowed = isinstance(node, (ast.ImportFrom, ast.Assign, ast.FunctionDef, ast.ClassDef))
                self.assertTrue(docstring or allowed, f"{path.name}:{node.lineno}")
                if isinstance(node, ast.Assign):
                    calls = [inner for inner in ast.walk(node) if isinstance(inner, ast.Call)]
                    self.assertEqual((calls, len(node.targets)), ([], 1), f"{path.name}:{node.lineno}")
            assigned = [node.targets[0].id for node in tree.body if isinstance(node, ast.Assign)]
            self.assertEqual(len(assigned), len(set(assigned)), path)
            for name in assigned:
                self.assertEqual(names.count(name), 1, path)

    def test_imports_name_the_file_that_defines(self):
        needs = {path.stem: [] for path in self.trees}
        for path, tree in self.trees.items():
            for node in ast.walk(tree):
                if isinstance(node, ast.ImportFrom):
                    where = f"{path.name}:{node.lineno}"
                    self.assertIn(node, tree.body, where)
                    self.assertEqual(node.level, 0, where)
                    package, dot, module = node.module.partition(".")
                    self.assertEqual(package, "glidequeue", where)
                    defined = top_names(self.trees[PACKAGE / f"{module}.py"])
                    for alias in node.names:
                        self.assertIn(alias.name, defined, where)
                    needs[path.stem].append(module)
        self.no_circle(needs)

    def no_circle(self, needs):
        left = dict(needs)
        while left:
            ready = [module for module in left if not any(need in left for need in left[module])]
            self.assertTrue(ready, f"these import from each other: {sorted(left)}")
            for module in ready:
                del left[module]

    def test_statements_and_expressions(self):
        for where, node in self.nodes():
            self.assertNotIsInstance(node, BARRED_NODES, where)
            if isinstance(node, (ast.For, ast.While)):
                self.assertEqual(node.orelse, [], where)
            if isinstance(node, ast.Constant):
                self.assertNotIsInstance(node.value, (float, complex), where)
                if isinstance(node.value, str):
                    self.assertNotIn("%", node.value, where)
            if isinstance(node, ast.Compare):
                for sign, right in zip(node.ops, node.comparators):
                    if isinstance(sign, (ast.Is, ast.IsNot)):
                        self.assertTrue(isinstance(right, ast.Constant) and right.value in (None, True, False), where)
            if isinstance(node, ast.ExceptHandler):
                self.assertIsNotNone(node.type, where)
            if isinstance(node, ast.FormattedValue):
                self.assertIsNone(node.format_spec, where)
            if isinstance(node, ast.Starred):
                self.assertIsInstance(node.ctx, ast.Store, where)

    def test_functions_and_classes_are_plain(self):
        for where, node in self.nodes():
            if isinstance(node, (ast.FunctionDef, ast.ClassDef)):
                self.assertEqual(node.decorator_list, [], where)
            if isinstance(node, ast.arguments):
                self.assertEqual((node.vararg, node.kwarg, node.posonlyargs), (None, None, []), where)
            if isinstance(node, ast.ClassDef):
                self.assertLessEqual(len(node.bases), 1, where)
                docstring = ast.get_docstring(node) is not None
                for inner in node.body[1 if docstring else 0:]:
                    self.assertIsInstance(inner, ast.FunctionDef, where)

    def test_names(self):
        for where, node in self.nodes():
            for name in names_bound_by(node):
                if name not in SPECIAL_METHODS:
                    self.assertRegex(name, r"^[A-Za-z][A-Za-z0-9_]*$", where)
                    self.assertNotIn(name, BARRED_NAMES, where)
            if isinstance(node, ast.arg) or isinstance(node, ast.Name) and isinstance(node.ctx, ast.Store):
                self.assertNotIn(names_bound_by(node)[0], dir(builtins), where)
            if isinstance(node, ast.Name) and node.id in dir(builtins):
                self.assertIn(node.id, BUILTINS, where)

    def test_no_name_in_a_function_is_that_of_an_import_or_a_class(self):
        for path, tree in self.trees.items():
            tops = [node for node in tree.body if isinstance(node, ast.ClassDef)]
            tops += [alias for node in tree.body if isinstance(node, ast.ImportFrom) for alias in node.names]
            taken = {name for node in tops for name in names_bound_by(node)}
            for node in ast.walk(tree):
                if isinstance(node, (ast.arg, ast.Name, ast.ExceptHandler)):
                    where = f"{path.name}:{node.lineno}"
                    self.assertEqual(taken.intersection(names_bound_by(node)), set(), where)

    def test_methods_and_attributes(self):
        own_methods, set_attributes = set(), set()
        for where, node in self.nodes():
            if isinstance(node, ast.ClassDef):
                own_methods |= {inner.name for inner in node.body if isinstance(inner, ast.FunctionDef)}
            if isinstance(node, ast.Attribute) and isinstance(node.ctx, ast.Store):
                set_attributes.add(node.attr)
        self.assertEqual(own_methods & set_attributes, set())
        for where, node in self.nodes():
            if isinstance(node, ast.Attribute):
                self.assertIn(node.attr, METHODS | own_methods | set_attributes, where)


if __name__ == "__main__":
    unittest.main()
