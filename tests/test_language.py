"""The package's files against those rules of LANGUAGE.md that are plainly seen in them.

A pass here doesn't show that every rule is kept; a failure shows that one isn't.
"""

import ast
import builtins
import pathlib
import re
import tokenize
import unittest
import warnings

PACKAGE = pathlib.Path(__file__).resolve().parent.parent / "looktrails"
FILES = sorted(PACKAGE.glob("*.py"))

ALLOWED_BUILTINS = set(
    "len range enumerate zip min max sum abs sorted reversed int str bool bytes list tuple dict set"
    " frozenset isinstance ord repr any all divmod iter next Exception ValueError TypeError KeyError"
    " IndexError LookupError ZeroDivisionError ArithmeticError OverflowError RuntimeError"
    " NotImplementedError AttributeError StopIteration NotImplemented super property staticmethod"
    " classmethod object".split()
)
ALLOWED_METHODS = set(
    "append clear copy count endswith extend find get index insert isalnum isalpha isdigit islower"
    " isspace isupper items join keys ljust lower lstrip partition pop remove replace reverse rfind"
    " rjust rpartition rsplit rstrip setdefault split splitlines startswith strip update upper values"
    " zfill bit_length title capitalize swapcase casefold center expandtabs removeprefix removesuffix"
    " rindex isascii isdecimal isnumeric istitle isidentifier isprintable translate add discard sort"
    " __init__".split()
)
BARRED_NAMES = set(
    "register mro elements open input version_info with_traceback add_note attrgetter breakpoint"
    " builtins compile copyright credits delattr dir eval exec exit gc getattr globals hasattr help id"
    " importlib license locals methodcaller os quit setattr type vars sys".split()
)
BARRED_WORDS = re.compile(
    r"\b(type|typing|typing_extensions|enum|Enum|IntEnum|StrEnum|Flag|IntFlag|Generic|Protocol|ABC"
    r"|ABCMeta|namedtuple|NamedTuple|TypedDict|TYPE_CHECKING|abstractmethod)\b"
    r"|dataclass|overload|contextmanager"
)
ITERATED_AT_ONCE = ("zip", "enumerate", "reversed", "range", "items", "keys", "values", "set")
MODULE_LEVEL = (ast.ImportFrom, ast.FunctionDef, ast.ClassDef, ast.Assign, ast.AnnAssign)
BARRED_NODES = (
    ast.Import, ast.Global, ast.AsyncFunctionDef, ast.AsyncFor, ast.AsyncWith, ast.Await, ast.Div,
    ast.MatMult, ast.TryStar,
)


def tree_of(path):
    return ast.parse(path.read_text(), str(path))


def own_methods():
    """The names of all methods that the package defines."""
    return {
        item.name
        for path in FILES
        for node in ast.walk(tree_of(path))
        if isinstance(node, ast.ClassDef)
        for item in node.body
        if isinstance(item, ast.FunctionDef)
    }


def is_docstring(node):
    return isinstance(node, ast.Expr) and isinstance(node.value, ast.Constant)


def bound_names(tree):
    """All names that are assigned, handed in or defined anywhere in a file."""
    for node in ast.walk(tree):
        if isinstance(node, ast.Name) and isinstance(node.ctx, ast.Store):
            yield node.id
        elif isinstance(node, ast.arg):
            yield node.arg
        elif isinstance(node, (ast.FunctionDef, ast.ClassDef)):
            yield node.name


def defined_in(file):
    """The names that a file itself defines at module level."""
    found = set()
    for node in tree_of(PACKAGE / (file + ".py")).body:
        if isinstance(node, (ast.FunctionDef, ast.ClassDef)):
            found.add(node.name)
        elif isinstance(node, ast.Assign):
            found |= {target.id for target in node.targets}
    return found


def called_name(node):
    """The name of the function or method that an expression calls, None where it's no call."""
    if not isinstance(node, ast.Call):
        return None
    return node.func.attr if isinstance(node.func, ast.Attribute) else node.func.id


def each_file(check):
    """A test that makes that check of each file by itself."""

    def test(self):
        for path in FILES:
            with self.subTest(path.name):
                check(self, path, tree_of(path))

    return test


class Language(unittest.TestCase):
    def test_files(self):
        self.assertIn("__init__.py", [path.name for path in FILES])
        self.assertLessEqual(len(FILES), 100)
        for path in PACKAGE.iterdir():
            if path.name != "__pycache__":
                self.assertRegex(path.name, r"\A[a-z0-9_]+\.py\Z")

    @each_file
    def test_signs_and_sizes(self, path, tree):
        text = path.read_bytes().decode("ascii")
        self.assertIsNone(re.search(r"[^\n -~]", text))
        self.assertIsNone(BARRED_WORDS.search(text))
        lines = text.splitlines()
        self.assertLessEqual(len(lines), 400)
        self.assertLessEqual(max(len(line) for line in lines), 120)
        for node in ast.walk(tree):
            if isinstance(node, ast.FunctionDef):
                self.assertLessEqual(node.end_lineno - node.lineno + 1, 40, node.name)

    @each_file
    def test_no_warnings(self, path, tree):
        with warnings.catch_warnings():
            warnings.simplefilter("error")
            compile(path.read_text(), str(path), "exec")

    @each_file
    def test_module_level(self, path, tree):
        self.assertTrue(is_docstring(tree.body[0]))
        bound = []
        for node in tree.body[1:]:
            self.assertIsInstance(node, MODULE_LEVEL)
            if isinstance(node, ast.ImportFrom):
                bound.extend(alias.asname or alias.name for alias in node.names)
            elif isinstance(node, ast.Assign):
                bound.extend(target.id for target in node.targets)
            elif isinstance(node, ast.AnnAssign):
                bound.append(node.target.id)
            else:
                bound.append(node.name)
        self.assertEqual(len(bound), len(set(bound)))

    def test_imports(self):
        needs = {}
        for path in FILES:
            tree = tree_of(path)
            needs[path.stem] = []
            for node in ast.walk(tree):
                if isinstance(node, ast.ImportFrom):
                    self.assertEqual(node.level, 0)
                    package, dot, file = node.module.partition(".")
                    self.assertEqual(package, "looktrails")
                    self.assertLessEqual({alias.name for alias in node.names}, defined_in(file))
                    needs[path.stem].append(file)
        while needs:
            free = [file for file in needs if not any(need in needs for need in needs[file])]
            self.assertTrue(free, f"files that import from each other: {sorted(needs)}")
            for file in free:
                del needs[file]

    @each_file
    def test_imports_are_used(self, path, tree):
        used = {node.id for node in ast.walk(tree) if isinstance(node, ast.Name)}
        for node in tree.body:
            if isinstance(node, ast.ImportFrom):
                self.assertLessEqual({alias.asname or alias.name for alias in node.names}, used)

    @each_file
    def test_names(self, path, tree):
        known = set(dir(builtins))
        for name in bound_names(tree):
            self.assertRegex(name, r"\A([A-Za-z][A-Za-z0-9_]*|__[a-z]+__)\Z")
            self.assertNotIn(name, BARRED_NAMES)
        for node in ast.walk(tree):
            if isinstance(node, ast.Name) and node.id in known:
                self.assertIn(node.id, ALLOWED_BUILTINS)

    @each_file
    def test_no_local_name_hides_another(self, path, tree):
        taken = set(dir(builtins))
        for node in tree.body:
            if isinstance(node, ast.ImportFrom):
                taken |= {alias.asname or alias.name for alias in node.names}
            elif isinstance(node, ast.ClassDef):
                taken.add(node.name)
        for function in ast.walk(tree):
            if isinstance(function, ast.FunctionDef):
                inside = [name for part in function.body for name in bound_names(part)]
                names = set(inside) | {argument.arg for argument in ast.walk(function.args)
                                       if isinstance(argument, ast.arg)}
                self.assertFalse(names & taken, function.name)

    @each_file
    def test_barred_signs_of_the_language(self, path, tree):
        for node in ast.walk(tree):
            self.assertNotIsInstance(node, BARRED_NODES)
            if isinstance(node, ast.Constant):
                self.assertNotIsInstance(node.value, (float, complex))
                if isinstance(node.value, str):
                    self.assertNotIn("%", node.value)
            if isinstance(node, ast.Compare):
                for operator, right in zip(node.ops, node.comparators):
                    if isinstance(operator, (ast.Is, ast.IsNot)):
                        self.assertIsInstance(right, ast.Constant)
                        self.assertIn(repr(right.value), ("None", "True", "False"))

    @each_file
    def test_methods_that_are_called(self, path, tree):
        allowed = ALLOWED_METHODS | own_methods()
        for node in ast.walk(tree):
            if isinstance(node, ast.Call) and isinstance(node.func, ast.Attribute):
                self.assertIn(node.func.attr, allowed)

    @each_file
    def test_iterated_at_once(self, path, tree):
        for node in ast.walk(tree):
            # A list stands for each of these, so no class with == bars them later on.
            self.assertNotIsInstance(node, (ast.GeneratorExp, ast.Yield, ast.YieldFrom))
            if isinstance(node, (ast.Assign, ast.AnnAssign, ast.Return, ast.keyword)):
                self.assertNotIn(called_name(node.value), ITERATED_AT_ONCE)
            if isinstance(node, (ast.List, ast.Tuple)):
                for one in node.elts:
                    self.assertNotIn(called_name(one), ITERATED_AT_ONCE)

    @each_file
    def test_escapes(self, path, tree):
        with tokenize.open(path) as rows:
            for token in tokenize.generate_tokens(rows.readline):
                if token.type == tokenize.STRING:
                    self.assertIsNone(re.search(r"\\[^nt\\'\"]", token.string))

    @each_file
    def test_decorators_and_arguments(self, path, tree):
        for node in ast.walk(tree):
            if isinstance(node, ast.FunctionDef):
                self.assertFalse(node.args.posonlyargs)
            if isinstance(node, ast.ClassDef):
                self.assertFalse(node.decorator_list)
            if isinstance(node, ast.Raise) and node.exc is not None:
                self.assertIsInstance(node.exc, ast.Call)
                self.assertIsInstance(node.exc.func, ast.Name)


if __name__ == "__main__":
    unittest.main()
