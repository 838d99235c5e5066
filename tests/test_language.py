"""The form of the code: those rules of the language that can be looked at in the package's files."""

import ast
import builtins
import pathlib
import re
import unittest

PACKAGE = pathlib.Path(__file__).resolve().parent.parent / "stepforms"
FILES = sorted(PACKAGE.glob("*.py"))

ALLOWED_BUILTINS = set(
    "len range enumerate zip min max sum abs sorted reversed int str bool bytes list tuple dict set frozenset isinstance"
    " ord repr any all divmod iter next Exception ValueError TypeError KeyError IndexError LookupError ZeroDivisionError"
    " ArithmeticError OverflowError RuntimeError NotImplementedError AttributeError StopIteration".split())
BARRED_WORDS = re.compile(
    r"\b(type|typing|typing_extensions|enum|Enum|IntEnum|StrEnum|Flag|IntFlag|Generic|Protocol|ABC|ABCMeta|namedtuple"
    r"|NamedTuple|TypedDict|TYPE_CHECKING|abstractmethod)\b|dataclass|overload|contextmanager")
BARRED_NAMES = set(
    "register mro elements open input law version_info with_traceback add_note attrgetter breakpoint builtins compile"
    " copyright credits delattr dir eval exec exit gc getattr globals hasattr help id importlib license locals"
    " methodcaller os quit setattr super type vars sys".split())
METHODS = set(
    "append clear copy count endswith extend find get index insert isalnum isalpha isdigit islower isspace isupper items"
    " join keys ljust lower lstrip partition pop remove replace reverse rfind rjust rpartition rsplit rstrip setdefault"
    " split splitlines startswith strip update upper values zfill bit_length title capitalize swapcase casefold center"
    " expandtabs removeprefix removesuffix rindex isascii isdecimal isnumeric istitle isidentifier isprintable add"
    " discard sort translate".split())
BARRED_NODES = (ast.Global, ast.AsyncFunctionDef, ast.AsyncFor, ast.AsyncWith, ast.Await, ast.Import, ast.Div,
                ast.MatMult)
ITERATED_AT_ONCE = set("range zip enumerate reversed items keys values".split())
TAKERS = set("list tuple dict sorted sum any all enumerate zip bytes min max".split())


def trees():
    return {path: ast.parse(path.read_text()) for path in FILES}


def own_names(tree):
    """All names that a file binds, with their rows."""
    for node in ast.walk(tree):
        if isinstance(node, (ast.FunctionDef, ast.ClassDef)):
            yield node.name, node.lineno
        elif isinstance(node, ast.Name) and isinstance(node.ctx, ast.Store):
            yield node.id, node.lineno
        elif isinstance(node, ast.arg):
            yield node.arg, node.lineno
        elif isinstance(node, ast.alias):
            yield node.asname or node.name, node.lineno


def outer_names(tree):
    """All names that a file defines at its module level, those of imports left out."""
    names = [node.name for node in tree.body if isinstance(node, (ast.FunctionDef, ast.ClassDef))]
    return names + [target.id for node in tree.body if isinstance(node, ast.Assign) for target in node.targets]


class Language(unittest.TestCase):
    def test_files_and_signs(self):
        self.assertEqual(sorted(path.name for path in PACKAGE.iterdir() if path.name != "__pycache__"),
                         sorted(path.name for path in FILES))
        for path in FILES:
            text = path.read_text()
            self.assertRegex(path.stem, r"^(__init__|[a-z][a-z0-9_]*)$")
            self.assertRegex(text, r"^[ -~\n]*$")
            self.assertIsNone(BARRED_WORDS.search(text), path)
            self.assertLess(len(text.splitlines()), 400, path)
            self.assertLessEqual(max(map(len, text.splitlines())), 120, path)

    def test_sizes_of_functions(self):
        for path, tree in trees().items():
            for node in ast.walk(tree):
                if isinstance(node, ast.FunctionDef):
                    self.assertLessEqual(node.end_lineno - node.lineno + 1, 40, (path, node.name))

    def test_statements_and_values(self):
        for path, tree in trees().items():
            for node in ast.walk(tree):
                self.assertNotIsInstance(node, BARRED_NODES, path)
                if isinstance(node, ast.Constant):
                    self.assertNotIsInstance(node.value, (float, complex), path)
                    self.assertNotIn("%", node.value if isinstance(node.value, str) else "", path)
                if isinstance(node, ast.BinOp) and isinstance(node.op, ast.Pow):
                    self.assertIsInstance(node.right, ast.Constant, path)
                if isinstance(node, ast.Compare):
                    for sign, other in zip(node.ops, node.comparators):
                        if isinstance(sign, (ast.Is, ast.IsNot)):
                            self.assertTrue(isinstance(other, ast.Constant) and other.value in (None, True, False), path)

    def test_names(self):
        for path, tree in trees().items():
            barred = set(dir(builtins)) | BARRED_NAMES
            outer = [node.name for node in tree.body if isinstance(node, ast.ClassDef)]
            outer += [alias.name for node in tree.body if isinstance(node, ast.ImportFrom) for alias in node.names]
            bound = list(own_names(tree))
            for name, row in bound:
                self.assertNotIn(name, barred, (path, row))
                self.assertTrue(name == "__init__" or not name.startswith("_"), (path, row))
            for name in outer:
                self.assertEqual([found for found, row in bound].count(name), 1, (path, name))

    def test_builtins_and_methods(self):
        own = {method.name for tree in trees().values() for node in ast.walk(tree) if isinstance(node, ast.ClassDef)
               for method in node.body if isinstance(method, ast.FunctionDef)}
        for path, tree in trees().items():
            for node in ast.walk(tree):
                if isinstance(node, ast.Name) and node.id in dir(builtins):
                    self.assertIn(node.id, ALLOWED_BUILTINS, (path, node.lineno))
                if isinstance(node, ast.Call) and isinstance(node.func, ast.Attribute):
                    self.assertIn(node.func.attr, METHODS | own, (path, node.lineno))

    def test_what_is_iterated_at_once_is_not_stored(self):
        for path, tree in trees().items():
            for node in ast.walk(tree):
                for part in ast.iter_child_nodes(node):
                    if not isinstance(part, ast.Call):
                        continue
                    name = getattr(part.func, "id", getattr(part.func, "attr", None))
                    if name not in ITERATED_AT_ONCE:
                        continue
                    taken = isinstance(node, ast.Call) and getattr(node.func, "id", None) in TAKERS
                    self.assertTrue(taken or isinstance(node, (ast.For, ast.comprehension)), (path, part.lineno))

    def test_names_of_methods_and_attributes(self):
        methods, attributes = set(), set()
        for tree in trees().values():
            for node in ast.walk(tree):
                if isinstance(node, ast.ClassDef):
                    methods |= {part.name for part in node.body if isinstance(part, ast.FunctionDef)}
                if isinstance(node, ast.Attribute) and isinstance(node.ctx, ast.Store):
                    attributes.add(node.attr)
        self.assertFalse(methods & attributes)
        for name in (methods - {"__init__"}) | attributes:
            self.assertFalse(any(hasattr(kind, name) for kind in (str, int, list, dict, set, bytes)), name)

    def test_names_stand_once_and_imports_are_used(self):
        for path, tree in trees().items():
            names = outer_names(tree)
            self.assertEqual(len(names), len(set(names)), path)
            taken = [alias.name for node in tree.body if isinstance(node, ast.ImportFrom) for alias in node.names]
            read = {node.id for node in ast.walk(tree) if isinstance(node, ast.Name)}
            self.assertEqual([name for name in taken if name not in read], [], path)

    def test_imports(self):
        needs = {}
        for path, tree in trees().items():
            needs[path.stem] = []
            for node in ast.walk(tree):
                if isinstance(node, ast.ImportFrom):
                    self.assertEqual(node.level, 0, path)
                    package, module = node.module.split(".")
                    self.assertEqual(package, "stepforms", path)
                    needs[path.stem].append(module)
                    defined = outer_names(ast.parse((PACKAGE / (module + ".py")).read_text()))
                    for alias in node.names:
                        self.assertIn(alias.name, defined, path)
        while needs:
            free = [module for module in needs if not any(need in needs for need in needs[module])]
            self.assertTrue(free, f"these import one another: {sorted(needs)}")
            for module in free:
                del needs[module]

    def test_module_level(self):
        for path, tree in trees().items():
            for place, node in enumerate(tree.body):
                if isinstance(node, ast.Expr):
                    self.assertEqual(place, 0, path)
                else:
                    self.assertIsInstance(node, (ast.ImportFrom, ast.FunctionDef, ast.ClassDef, ast.Assign), path)


if __name__ == "__main__":
    unittest.main()
