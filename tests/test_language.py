"""That the package keeps to the part of Python told in ../shared/LANGUAGE.md, as far as a file's form shows it."""

import ast
import builtins
import pathlib
import re
import unittest

PACKAGE = pathlib.Path(__file__).resolve().parent.parent / "websbykind"

OWN_NAMES = set("""
len range enumerate zip min max sum abs sorted reversed int str bool bytes list tuple dict set isinstance ord repr any
all divmod Exception ValueError TypeError KeyError IndexError LookupError ZeroDivisionError ArithmeticError
OverflowError RuntimeError NotImplementedError AttributeError StopIteration object float
""".split())

OWN_METHODS = set("""
append clear copy count endswith extend find get index insert isalnum isalpha isdigit islower isspace isupper items
join keys ljust lower lstrip partition pop remove replace reverse rfind rjust rpartition rsplit rstrip setdefault split
splitlines startswith strip update upper values zfill bit_length title capitalize swapcase casefold center expandtabs
removeprefix removesuffix rindex isascii isdecimal isnumeric istitle isidentifier isprintable add discard sort
""".split())

TWO_UNDERSCORES = {"__init__", "__eq__", "__repr__", "__str__", "__len__"}

WORDS_NOT_USED = re.compile(
    r"\b(type|typing|typing_extensions|enum|Enum|IntEnum|StrEnum|Flag|IntFlag|Generic|Protocol|ABC|ABCMeta|namedtuple"
    r"|NamedTuple|TypedDict|TYPE_CHECKING|abstractmethod)\b|dataclass|overload|contextmanager")

NAMES_NOT_USED = set("""
register mro elements open input version_info with_traceback add_note attrgetter breakpoint builtins compile copyright
credits delattr dir eval exec exit gc getattr globals hasattr help id importlib license locals methodcaller os quit
setattr super type vars sys
""".split())

FORMS_NOT_USED = (
    ast.With, ast.AsyncWith, ast.AsyncFor, ast.AsyncFunctionDef, ast.Await, ast.Match, ast.Global, ast.Nonlocal,
    ast.Yield, ast.YieldFrom, ast.NamedExpr, ast.GeneratorExp, ast.Div, ast.MatMult, ast.Import)


def package_files():
    return sorted(path for path in PACKAGE.rglob("*.py"))


def parsed(path):
    return ast.parse(path.read_text(encoding="utf-8"))


def names_given(tree):
    """Every name that a file binds, with its row."""
    for node in ast.walk(tree):
        if isinstance(node, ast.Name) and isinstance(node.ctx, ast.Store):
            yield node.id, node.lineno
        elif isinstance(node, (ast.FunctionDef, ast.ClassDef)):
            yield node.name, node.lineno
        elif isinstance(node, ast.arg):
            yield node.arg, node.lineno
        elif isinstance(node, ast.ExceptHandler) and node.name:
            yield node.name, node.lineno


def top_names(tree):
    """Every name bound at a file's top, as often as it is bound."""
    names = []
    for row in tree.body:
        if isinstance(row, (ast.FunctionDef, ast.ClassDef)):
            names.append(row.name)
        elif isinstance(row, ast.ImportFrom):
            names += [alias.asname or alias.name for alias in row.names]
        elif isinstance(row, ast.Assign):
            names += [target.id for target in row.targets]
    return names


def values_of_objects(trees):
    """Every method of a class of the package, and every value given to an object."""
    found = set()
    for tree in trees:
        for node in ast.walk(tree):
            if isinstance(node, ast.ClassDef):
                found |= {row.name for row in node.body if isinstance(row, ast.FunctionDef)}
            elif isinstance(node, ast.Attribute) and isinstance(node.ctx, ast.Store):
                found.add(node.attr)
    return found


def drawn_files(path):
    """The files of the package that a file draws from."""
    return [row.module.split(".")[1] + ".py" for row in parsed(path).body if isinstance(row, ast.ImportFrom)]


def with_parents(tree):
    """Every node of a tree with the one that it stands in."""
    for parent in ast.walk(tree):
        for node in ast.iter_child_nodes(parent):
            yield node, parent


def called(node):
    """The name or the method that a node calls, "" where it calls none."""
    if not isinstance(node, ast.Call):
        return ""
    return node.func.id if isinstance(node.func, ast.Name) else "." + node.func.attr


def is_walked(node, parent):
    """Whether a node stands behind the in of a loop, or of a question."""
    return isinstance(parent, (ast.For, ast.comprehension)) and parent.iter is node or isinstance(parent, ast.Compare)


def is_docstring(row):
    return isinstance(row, ast.Expr) and isinstance(row.value, ast.Constant) and isinstance(row.value.value, str)


class Language(unittest.TestCase):
    def each_node(self):
        for path in package_files():
            for node in ast.walk(parsed(path)):
                yield node, f"{path.name}:{getattr(node, 'lineno', 0)}"

    def test_files(self):
        self.assertTrue((PACKAGE / "__init__.py").is_file())
        for path in PACKAGE.rglob("*"):
            if "__pycache__" not in path.parts:
                self.assertRegex(path.name, r"^(__init__|__main__|[a-z][a-z0-9_]*)\.py$")
                self.assertNotIn(path.stem, dir(builtins))

    def test_signs_words_and_size(self):
        for path in package_files():
            text = path.read_bytes().decode("ascii")
            self.assertNotRegex(text, r"[^\n -~]", path.name)
            self.assertIsNone(WORDS_NOT_USED.search(text), path.name)
            rows = text.split("\n")
            self.assertLessEqual(len(rows), 400, path.name)
            self.assertLessEqual(max(len(row) for row in rows), 120, path.name)

    def test_top_of_a_file(self):
        for path in package_files():
            tree = parsed(path)
            for row in tree.body:
                plain = isinstance(row, (ast.FunctionDef, ast.ClassDef, ast.ImportFrom, ast.Assign))
                self.assertTrue(plain or is_docstring(row), (path.name, row.lineno))
            names = top_names(tree)
            self.assertEqual(len(names), len(set(names)), path.name)

    def test_imports(self):
        for node, where in self.each_node():
            if isinstance(node, ast.ImportFrom):
                self.assertEqual(node.level, 0, where)
                self.assertTrue(node.module.startswith("websbykind."), where)
                drawn = top_names(parsed(PACKAGE / (node.module.split(".")[1] + ".py")))
                for alias in node.names:
                    self.assertIn(alias.name, drawn, where)

    def test_no_two_files_draw_from_one_another(self):
        waiting = {path.name: drawn_files(path) for path in package_files()}
        while waiting:
            free = [name for name, drawn in waiting.items() if not any(other in waiting for other in drawn)]
            self.assertTrue(free, sorted(waiting))
            for name in free:
                del waiting[name]

    def test_walked_at_once(self):
        walkers = ["list", "tuple", "dict", "sorted", "sum", "any", "all", "enumerate", "zip", "bytes", "min", "max",
                   ".join"]
        for path in package_files():
            for node, parent in with_parents(parsed(path)):
                if called(node) in ["zip", "enumerate", "reversed", "range", ".items", ".keys", ".values"]:
                    self.assertTrue(is_walked(node, parent) or called(parent) in walkers, (path.name, node.lineno))

    def test_sets(self):
        for path in package_files():
            for node, parent in with_parents(parsed(path)):
                if isinstance(node, (ast.Set, ast.SetComp)) or called(node) == "set":
                    asked = isinstance(parent, ast.Compare) or called(parent) in ["sorted", "len"]
                    kept = isinstance(parent, ast.Assign) and isinstance(parent.targets[0], ast.Name)
                    self.assertTrue(asked or kept, (path.name, node.lineno))
                if isinstance(node, (ast.For, ast.comprehension)):
                    self.assertNotIsInstance(node.iter, (ast.Set, ast.SetComp), path.name)

    def test_defs(self):
        for node, where in self.each_node():
            if isinstance(node, ast.FunctionDef):
                self.assertLessEqual(node.end_lineno - node.lineno + 1, 40, where)
                self.assertEqual(node.decorator_list, [], where)
            if isinstance(node, ast.arguments):
                self.assertEqual((node.vararg, node.kwarg, node.posonlyargs), (None, None, []), where)

    def test_classes(self):
        for node, where in self.each_node():
            if isinstance(node, ast.ClassDef):
                self.assertEqual((node.decorator_list, node.keywords), ([], []), where)
                self.assertLessEqual(len(node.bases), 1, where)
                for row in node.body:
                    self.assertTrue(isinstance(row, (ast.FunctionDef, ast.Pass)) or is_docstring(row), where)

    def test_forms(self):
        for node, where in self.each_node():
            self.assertNotIsInstance(node, FORMS_NOT_USED, where)
            if isinstance(node, (ast.For, ast.While)):
                self.assertEqual(node.orelse, [], where)
            elif isinstance(node, ast.Constant):
                self.assertNotIsInstance(node.value, (float, complex), where)
                self.assertFalse(isinstance(node.value, str) and "%" in node.value, where)
            elif isinstance(node, ast.FormattedValue):
                self.assertIsNone(node.format_spec, where)
            elif isinstance(node, ast.Call):
                self.assertFalse(any(isinstance(given, ast.Starred) for given in node.args), where)
                self.assertFalse(any(given.arg is None for given in node.keywords), where)
            elif isinstance(node, ast.BinOp) and isinstance(node.op, ast.Pow):
                self.assertIsInstance(node.right, ast.Constant, where)

    def test_handlers(self):
        for node, where in self.each_node():
            if isinstance(node, ast.ExceptHandler):
                self.assertIsNotNone(node.type, where)
                self.assertNotIn(ast.unparse(node.type), ["Exception", "TypeError", "BaseException"], where)
            elif isinstance(node, ast.Raise) and node.exc is not None:
                self.assertTrue(isinstance(node.exc, ast.Call) and isinstance(node.exc.func, ast.Name), where)

    def test_is_stands_beside_none_true_and_false_alone(self):
        for node, where in self.each_node():
            if isinstance(node, ast.Compare):
                for op, right in zip(node.ops, node.comparators):
                    if isinstance(op, (ast.Is, ast.IsNot)):
                        self.assertIn(ast.unparse(right), ["None", "True", "False"], where)

    def test_names(self):
        for path in package_files():
            tree = parsed(path)
            for name, row in names_given(tree):
                if name not in TWO_UNDERSCORES:
                    self.assertRegex(name, r"^[A-Za-z][A-Za-z0-9_]*$", (path.name, row))
                    self.assertNotIn(name, dir(builtins), (path.name, row))
                    self.assertNotIn(name, NAMES_NOT_USED, (path.name, row))

    def test_no_local_is_called_like_an_import_or_a_class(self):
        for path in package_files():
            tree = parsed(path)
            drawn = [alias.name for row in tree.body if isinstance(row, ast.ImportFrom) for alias in row.names]
            classes = [row.name for row in tree.body if isinstance(row, ast.ClassDef)]
            for top in tree.body:
                for name, row in names_given(top):
                    if row > top.lineno or not isinstance(top, ast.ClassDef):
                        self.assertNotIn(name, drawn + classes, (path.name, row))

    def test_names_of_pythons_own(self):
        for node, where in self.each_node():
            if isinstance(node, ast.Name) and node.id in dir(builtins):
                self.assertIn(node.id, OWN_NAMES, where)

    def test_methods_and_values(self):
        own = values_of_objects([parsed(path) for path in package_files()])
        for node, where in self.each_node():
            if isinstance(node, ast.Attribute):
                self.assertIn(node.attr, OWN_METHODS | own | TWO_UNDERSCORES, where)


if __name__ == "__main__":
    unittest.main()
