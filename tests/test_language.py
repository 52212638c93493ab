"""The package keeps to its subset of Python, as far as its files alone can show."""

import ast
import builtins
import io
import re
import tokenize
import unittest
from pathlib import Path

ROOT = Path(__file__).resolve().parent.parent
PACKAGE = ROOT / "loopfoundry"

BUILTINS = set(
    "len range enumerate zip min max sum abs sorted reversed int str bool bytes list tuple dict set frozenset isinstance"
    " ord repr any all divmod iter next map super property classmethod staticmethod NotImplemented Exception ValueError"
    " TypeError KeyError IndexError LookupError ZeroDivisionError ArithmeticError OverflowError RuntimeError"
    " NotImplementedError AttributeError StopIteration object".split()
)
METHODS = set(
    "append clear copy count endswith extend find get index insert isalnum isalpha isdigit islower isspace isupper items"
    " join keys ljust lower lstrip partition pop remove replace reverse rfind rjust rpartition rsplit rstrip setdefault"
    " split splitlines startswith strip update upper values zfill bit_length add discard".split()
)
STATEMENTS = (
    ast.Assign, ast.AugAssign, ast.AnnAssign, ast.If, ast.While, ast.For, ast.Return, ast.Break, ast.Continue, ast.Pass,
    ast.Raise, ast.Assert, ast.Delete, ast.FunctionDef, ast.ClassDef, ast.Expr, ast.ImportFrom,
)
DUNDERS = set(
    "__init__ __eq__ __str__ __repr__ __len__ __iter__ __contains__ __getitem__ __bool__ __add__ __or__ __and__".split()
)
BARRED = set(
    "register mro elements open input law version_info with_traceback add_note attrgetter breakpoint builtins compile"
    " copyright credits delattr dir eval exec exit gc getattr globals hasattr help id importlib license locals"
    " methodcaller os quit setattr super type vars sys".split()
)
BARRED_WORDS = set(
    "type typing typing_extensions enum Enum IntEnum StrEnum Flag IntFlag Generic Protocol ABC ABCMeta namedtuple"
    " NamedTuple TypedDict TYPE_CHECKING abstractmethod dataclass overload contextmanager".split()
)
LIBRARY = {
    "heapq": {"heappush", "heappop", "heapify", "heapreplace", "heappushpop"},
    "math": {"gcd", "lcm", "isqrt", "comb", "perm", "factorial"},
}
CHANGING = set("append clear extend insert pop remove reverse setdefault update sort add discard".split())
PYTHON_NAMES = set(dir(builtins))


def files():
    return sorted(path for path in PACKAGE.rglob("*") if path.is_file() and "__pycache__" not in path.parts)


def module_of(path):
    parts = path.relative_to(ROOT).with_suffix("").parts
    return ".".join(parts[:-1] if parts[-1] == "__init__" else parts)


TREES = {path: ast.parse(path.read_text(encoding="utf-8")) for path in files() if path.suffix == ".py"}


def walk(kind):
    for path, tree in TREES.items():
        for node in ast.walk(tree):
            if isinstance(node, kind):
                yield path, node


def functions():
    return walk(ast.FunctionDef)


def defined(tree):
    """The names that a module binds itself."""
    names = []
    for node in tree.body:
        if isinstance(node, (ast.FunctionDef, ast.ClassDef)):
            names.append(node.name)
        elif isinstance(node, ast.Assign):
            names += [target.id for target in node.targets]
    return names


def imported(tree):
    return [alias.name for node in tree.body if isinstance(node, ast.ImportFrom) for alias in node.names]


def locals_of(function):
    """The parameters and the variables that a function assigns."""
    names = {part.arg for part in ast.walk(function.args) if isinstance(part, ast.arg)}
    for node in ast.walk(function):
        if isinstance(node, ast.Name) and isinstance(node.ctx, (ast.Store, ast.Del)):
            names.add(node.id)
        if isinstance(node, ast.arg):
            names.add(node.arg)
    return names


def own_methods():
    return {node.name for _, row in walk(ast.ClassDef) for node in row.body if isinstance(node, ast.FunctionDef)}


def is_reversed_range(node):
    if not isinstance(node, ast.Call) or len(node.args) != 1:
        return False
    return [getattr(getattr(row, "func", None), "id", None) for row in (node, node.args[0])] == ["reversed", "range"]


def name_called(node):
    """What a call calls: its bare name, or the name behind its last point."""
    return node.func.id if isinstance(node.func, ast.Name) else getattr(node.func, "attr", "")


def is_settled(node):
    """Whether this is a literal, a comprehension of a list, or a call that makes a new list or dict."""
    if isinstance(node, ast.Call):
        return isinstance(node.func, ast.Name) and node.func.id in ("list", "dict", "sorted")
    return isinstance(node, (ast.List, ast.Dict, ast.ListComp))


def own_lists(function):
    """The local variables of a function that it assigns nothing but lists and dicts that it makes itself."""
    given = {}
    for node in ast.walk(function):
        if isinstance(node, ast.Assign):
            for target in node.targets:
                pairs = [(target, node.value)]
                if isinstance(target, ast.Tuple) and isinstance(node.value, ast.Tuple):
                    pairs = list(zip(target.elts, node.value.elts))
                for one, value in pairs:
                    for part in ast.walk(one):
                        if isinstance(part, ast.Name) and isinstance(part.ctx, ast.Store):
                            given.setdefault(part.id, []).append(part is one and is_settled(value))
        elif isinstance(node, ast.For):
            for part in ast.walk(node.target):
                if isinstance(part, ast.Name):
                    given.setdefault(part.id, []).append(False)
    parameters = {part.arg for part in ast.walk(function.args) if isinstance(part, ast.arg)}
    return {name for name, rows in given.items() if all(rows)} - parameters


def name_of(node):
    """The name that this is, or None."""
    return node.id if isinstance(node, ast.Name) else None


def changes_of(function):
    """The rows in which a function changes what it did not make itself, or calls what it was passed or holds."""
    own, rows = own_lists(function), []
    passed = {part.arg for part in ast.walk(function.args) if isinstance(part, ast.arg)}
    for node in ast.walk(function):
        fine = True
        if isinstance(node, (ast.Attribute, ast.Subscript)) and isinstance(node.ctx, (ast.Store, ast.Del)):
            making = function.name == "__init__" and isinstance(node, ast.Attribute) and name_of(node.value) == "self"
            fine = making or (isinstance(node, ast.Subscript) and name_of(node.value) in own)
        elif isinstance(node, ast.AugAssign):
            plain = isinstance(node.value, ast.Constant) and isinstance(node.value.value, int)
            fine = plain and isinstance(node.target, ast.Name) and isinstance(node.op, (ast.Add, ast.Sub, ast.FloorDiv))
        elif isinstance(node, ast.Call) and isinstance(node.func, ast.Attribute) and node.func.attr in CHANGING:
            fine = node.func.attr not in ("sort", "add", "discard") and name_of(node.func.value) in own
        elif isinstance(node, ast.Call):
            fine = name_of(node.func) not in passed
        elif isinstance(node, (ast.Yield, ast.YieldFrom, ast.Nonlocal)):
            fine = False
        if not fine:
            rows.append(node.lineno)
    return rows


def by_names():
    """A dict from the names of functions and methods to their (path, function); a class stands for its `__init__`."""
    known = {}
    for path, node in functions():
        known.setdefault(node.name, []).append((path, node))
    for path, node in walk(ast.ClassDef):
        rows = [row for row in node.body if isinstance(row, ast.FunctionDef) and row.name == "__init__"]
        known.setdefault(node.name, []).extend([(path, row) for row in rows])
    return known


BY_NAMES = by_names()


def reached_from(path, function):
    """The (path, function) of all that a function calls, through what it calls, too, and its own."""
    waiting, seen = [(path, function)], {}
    while waiting:
        path, node = waiting.pop()
        if id(node) not in seen:
            seen[id(node)] = (path, node)
            for part in ast.walk(node):
                if isinstance(part, ast.Call):
                    waiting.extend(BY_NAMES.get(name_called(part), []))
    return list(seen.values())


def is_docstring(node):
    return isinstance(node, ast.Expr) and isinstance(node.value, ast.Constant) and isinstance(node.value.value, str)


class FilesTest(unittest.TestCase):
    def test_files(self):
        self.assertLessEqual(len(files()), 100)
        for path in files():
            self.assertEqual(path.suffix, ".py", path)
            self.assertRegex(path.stem, r"^(__init__|[a-z][a-z0-9_]*)$")
            self.assertNotIn(path.stem, PYTHON_NAMES | BARRED_WORDS)
            self.assertFalse(path.with_suffix("").is_dir(), path)
            self.assertTrue((path.parent / "__init__.py").is_file(), path)
        self.assertGreater(len(files()), 10)

    def test_characters_and_sizes(self):
        for path in TREES:
            text = path.read_text(encoding="utf-8")
            self.assertRegex(text, r"\A[ -~\n]*\Z", path)
            lines = text.split("\n")
            self.assertLessEqual(len(lines) - 1, 399, path)
            self.assertLessEqual(max(map(len, lines)), 120, path)
            self.assertNotIn("_wall", text)
        for path, node in functions():
            first = min([node.lineno, *[row.lineno for row in node.decorator_list]])
            self.assertLessEqual(node.end_lineno - first + 1, 40, (path, node.name))

    def test_words(self):
        for path in TREES:
            text = path.read_text(encoding="utf-8")
            for token in tokenize.generate_tokens(io.StringIO(text).readline):
                if token.type == tokenize.NAME:
                    self.assertNotIn(token.string, BARRED_WORDS, path)


class ImportsTest(unittest.TestCase):
    def test_imports(self):
        modules = {module_of(path): tree for path, tree in TREES.items()}
        self.assertFalse([path for path, _ in walk(ast.Import)])
        for path, node in walk(ast.ImportFrom):
            self.assertEqual(node.level, 0)
            self.assertIn(node, TREES[path].body)
            names = [alias.name for alias in node.names]
            self.assertFalse([alias for alias in node.names if alias.asname], path)
            if node.module in LIBRARY:
                self.assertLessEqual(set(names), LIBRARY[node.module])
            else:
                self.assertIn(node.module, modules)
                self.assertLessEqual(set(names), set(defined(modules[node.module])), (path, node.module))

    def test_no_import_is_unused(self):
        for path, tree in TREES.items():
            used = {node.id for node in ast.walk(tree) if isinstance(node, ast.Name)}
            self.assertLessEqual(set(imported(tree)), used, path)

    def test_no_circle(self):
        needs = {}
        for path, tree in TREES.items():
            rows = [node.module for node in tree.body if isinstance(node, ast.ImportFrom)]
            needs[module_of(path)] = [row for row in rows if row not in LIBRARY]

        def reach(module, seen):
            for other in needs[module]:
                self.assertNotIn(other, seen)
                reach(other, [*seen, other])

        for module in needs:
            reach(module, [module])

    def test_one_binding(self):
        for path, tree in TREES.items():
            names = defined(tree) + imported(tree)
            self.assertEqual(len(set(names)), len(names), path)
            barred = set(imported(tree)) | {node.name for node in tree.body if isinstance(node, ast.ClassDef)}
            for node in ast.walk(tree):
                if isinstance(node, (ast.FunctionDef, ast.Lambda)):
                    self.assertFalse(locals_of(node) & barred, (path, getattr(node, "name", "lambda")))


class StatementsTest(unittest.TestCase):
    def test_module_level(self):
        for path, tree in TREES.items():
            for place, node in enumerate(tree.body):
                if place == 0 and is_docstring(node):
                    continue
                self.assertIsInstance(node, (ast.ImportFrom, ast.FunctionDef, ast.ClassDef, ast.Assign), path)
                if isinstance(node, ast.Assign):
                    self.assertEqual(len(node.targets), 1)
                    self.assertIsInstance(node.targets[0], ast.Name)
                    for part in ast.walk(node.value):
                        self.assertNotIsInstance(part, (ast.Call, ast.comprehension, ast.Lambda, ast.Set))
                        if part is not node.value:
                            self.assertNotIsInstance(part, (ast.List, ast.Dict), (path, node.lineno))

    def test_statements(self):
        for path, node in walk(ast.stmt):
            self.assertIsInstance(node, STATEMENTS, (path, node.lineno))
        for path, node in walk(ast.Expr):
            fine = is_docstring(node) or isinstance(node.value, (ast.Call, ast.Yield, ast.YieldFrom))
            self.assertTrue(fine, (path, node.lineno))
        for path, node in walk(ast.arg):
            self.assertIsNone(node.annotation)
        for path, node in functions():
            self.assertIsNone(node.returns)
            for row in node.decorator_list:
                self.assertIsInstance(row, ast.Name)
                self.assertIn(row.id, ("property", "classmethod", "staticmethod"))

    def test_expressions(self):
        for path, node in walk(ast.AST):
            where = (path, getattr(node, "lineno", None))
            self.assertNotIsInstance(node, (ast.GeneratorExp, ast.Div, ast.MatMult, ast.Await, ast.NamedExpr), where)
            if isinstance(node, ast.Constant):
                self.assertNotIsInstance(node.value, (float, complex, bytes), where)
                if isinstance(node.value, str):
                    self.assertNotIn("%", node.value, where)
                    self.assertFalse(re.search(r"\._{1,2}$", node.value), where)
                    self.assertFalse(node.value.startswith("__"), where)
            if isinstance(node, ast.Pow):
                continue
            if isinstance(node, ast.BinOp) and isinstance(node.op, ast.Pow):
                self.assertIsInstance(node.right, ast.Constant, where)
                self.assertLessEqual(node.right.value, 64, where)
            if isinstance(node, ast.Compare):
                for op, right in zip(node.ops, node.comparators):
                    if isinstance(op, (ast.Is, ast.IsNot)):
                        self.assertIsInstance(right, ast.Constant, where)
                        self.assertIn(right.value, (None, True, False), where)
            if isinstance(node, (ast.Set, ast.SetComp)):
                self.fail(("no set literal is used", where))

    def test_sets_stand_where_they_may(self):
        for path, tree in TREES.items():
            fine = set()
            for node in ast.walk(tree):
                if isinstance(node, ast.Call) and isinstance(node.func, ast.Name) and node.func.id in ("len", "sorted"):
                    fine.update(id(argument) for argument in node.args if not node.keywords)
            for node in ast.walk(tree):
                if isinstance(node, ast.Call) and isinstance(node.func, ast.Name) and node.func.id == "set":
                    self.assertIn(id(node), fine, (path, node.lineno))

    def test_iterators_stand_where_they_may(self):
        at_once = {"list", "tuple", "dict", "sorted", "sum", "any", "all", "enumerate", "zip", "min", "max", "len"}
        for path, tree in TREES.items():
            fine = set()
            for node in ast.walk(tree):
                if isinstance(node, (ast.For, ast.comprehension)):
                    fine.add(id(node.iter))
                if isinstance(node, ast.Call) and isinstance(node.func, ast.Name) and node.func.id in at_once:
                    fine.update(id(argument) for argument in node.args[:1])
                if is_reversed_range(node):
                    fine.add(id(node.args[0]))
            for node in ast.walk(tree):
                if isinstance(node, ast.Call):
                    name = node.func.id if isinstance(node.func, ast.Name) else getattr(node.func, "attr", "")
                    if name in ("zip", "enumerate", "reversed", "range", "items", "keys", "values"):
                        self.assertIn(id(node), fine, (path, node.lineno))


class NamesTest(unittest.TestCase):
    def test_names(self):
        for path, tree in TREES.items():
            known = set(defined(tree)) | set(imported(tree)) | BUILTINS
            for node in ast.walk(tree):
                if isinstance(node, ast.FunctionDef):
                    known |= locals_of(node)
                    self.assertNotIn(node.name, BARRED)
                    self.assertFalse(locals_of(node) & (PYTHON_NAMES | BARRED), (path, node.name))
                if isinstance(node, ast.Lambda):
                    known |= locals_of(node)
            for node in ast.walk(tree):
                if isinstance(node, ast.Name):
                    self.assertIn(node.id, known, (path, node.lineno))
                    self.assertRegex(node.id, r"^(_|_?[A-Za-z][A-Za-z0-9_]*)$")
                    self.assertFalse(node.id == "_" and isinstance(node.ctx, ast.Load), (path, node.lineno))
            for name in defined(tree):
                self.assertNotIn(name, PYTHON_NAMES | BARRED)

    def test_calls_of_builtins(self):
        allowed = {"sorted": {"key", "reverse"}, "min": {"key", "default"}, "max": {"key", "default"}}
        allowed.update({"sum": {"start"}, "enumerate": {"start"}, "zip": {"strict"}})
        for path, node in walk(ast.Call):
            if isinstance(node.func, ast.Name) and node.func.id in PYTHON_NAMES:
                given = {keyword.arg for keyword in node.keywords}
                self.assertLessEqual(given, allowed.get(node.func.id, set()), (path, node.lineno))

    def test_builtins_are_called_and_not_kept(self):
        values = {"property", "classmethod", "staticmethod", "int", "str", "bool", "dict", "list", "tuple"}
        for path, tree in TREES.items():
            called = {id(node.func) for node in ast.walk(tree) if isinstance(node, ast.Call)}
            bases = {id(base) for node in ast.walk(tree) if isinstance(node, ast.ClassDef) for base in node.bases}
            for node in ast.walk(tree):
                if isinstance(node, ast.Name) and node.id in BUILTINS - values:
                    self.assertTrue(id(node) in called or id(node) in bases, (path, node.lineno, node.id))

    def test_behind_a_star_stand_only_plain_things(self):
        plain = (ast.Name, ast.Attribute, ast.Constant, ast.List, ast.Tuple, ast.Dict, ast.Starred, ast.expr_context)
        for path, node in walk(ast.Call):
            starred = [place for place, argument in enumerate(node.args) if isinstance(argument, ast.Starred)]
            if starred:
                behind = node.args[starred[0] :] + [keyword.value for keyword in node.keywords]
                for part in [part for row in behind for part in ast.walk(row)]:
                    self.assertIsInstance(part, plain, (path, node.lineno))

    def test_methods(self):
        own = own_methods()
        for path, node in walk(ast.Call):
            if isinstance(node.func, ast.Attribute):
                self.assertIn(node.func.attr, METHODS | own, (path, node.lineno))
                if node.func.attr in METHODS:
                    self.assertFalse(node.keywords, (path, node.lineno))
        for path, node in functions():
            if node.name.startswith("__"):
                self.assertIn(node.name, DUNDERS)

    def test_attributes(self):
        assigned = {node.attr for _, node in walk(ast.Attribute) if isinstance(node.ctx, ast.Store)}
        known = assigned | own_methods() | METHODS
        for path, node in walk(ast.Attribute):
            self.assertNotIn(node.attr, ("format", "format_map", "mro", "args", "__class__"))
            if isinstance(node.ctx, ast.Load):
                self.assertIn(node.attr, known, (path, node.lineno))
            else:
                self.assertIsInstance(node.value, ast.Name)
                self.assertEqual(node.value.id, "self")


class ClassesTest(unittest.TestCase):
    def test_classes(self):
        for path, node in walk(ast.ClassDef):
            self.assertIn(node, TREES[path].body)
            self.assertFalse(node.decorator_list or node.keywords)
            names = [row.name for row in node.body if isinstance(row, ast.FunctionDef)]
            self.assertEqual(len(set(names)), len(names), path)
            for row in node.body:
                self.assertTrue(isinstance(row, ast.FunctionDef) or is_docstring(row), (path, node.name))
            if "__getitem__" in names:
                self.assertIn("__iter__", names)

    def test_properties_only_tell(self):
        for path, node in functions():
            if [row for row in node.decorator_list if row.id == "property"]:
                rows = [row for row in node.body if not is_docstring(row)]
                self.assertEqual(len(rows), 1, (path, node.name))
                self.assertIsInstance(rows[0], ast.Return)
                for part in ast.walk(rows[0]):
                    if isinstance(part, ast.Call):
                        self.assertIn(part.func.id, ("dict",), (path, node.name))

    def test_operators_and_properties_change_nothing(self):
        roots = [
            (path, node) for path, node in functions()
            if node.name in DUNDERS - {"__init__"} or "property" in [row.id for row in node.decorator_list]
        ]
        self.assertGreater(len(roots), 50)
        for path, root in roots:
            for at, node in reached_from(path, root):
                self.assertFalse(changes_of(node), (path, root.name, at, node.name))

    def test_what_lives_are_made_of_is_reached(self):
        path = PACKAGE / "files" / "lives.py"
        for root in [node for at, node in functions() if at == path and node.name in ("__add__", "__or__", "__and__")]:
            names = [node.name for _, node in reached_from(path, root)]
            self.assertLessEqual({"__init__", "is_rows", "is_key", "is_life", "alive_counts"}, set(names))

    def test_what_changes_is_told(self):
        rows = {
            "def f(rows):\n    rows[0] = 1": [2],
            "def f(many):\n    rows = [0] * many\n    rows[0] = 1": [3],
            "def f(many):\n    rows = [0 for _ in many]\n    rows[0] = 1\n    rows.append(2)": [],
            "def f(many):\n    rows = []\n    rows = many\n    rows.append(1)": [4],
            "def f(rows):\n    for row in rows:\n        row.append(1)": [3],
            "def f(row):\n    rows = [row]\n    rows[0][0] = 1\n    rows[0].append(1)": [3, 4],
            "def f(rows):\n    at = {}\n    at[0] = 1\n    del at[0]\n    del rows[0]": [5],
            "def f(self):\n    self.at = 1": [2],
            "def __init__(self, other):\n    self.at = 1\n    other.at = 1\n    self.at.at = 1": [3, 4],
            "def f(one):\n    at = 0\n    at += 1\n    at += one\n    at *= 2": [4, 5],
            "def f(one):\n    rows = list(one)\n    rows.sort()\n    return one(rows)": [3, 4],
        }
        for text, wanted in rows.items():
            self.assertEqual(sorted(changes_of(ast.parse(text).body[0])), wanted, text)

    def test_what_is_reversed_is_written_there(self):
        written = (ast.List, ast.Tuple, ast.ListComp)
        for path, node in walk(ast.Call):
            if isinstance(node.func, ast.Name) and node.func.id == "reversed":
                over = node.args[0]
                made = isinstance(over, ast.Call) and name_called(over) in ("list", "tuple", "sorted", "range")
                self.assertTrue(made or isinstance(over, written), (path, node.lineno))

    def test_an_iterator_is_one_statement(self):
        for path, node in functions():
            if node.name == "__iter__":
                self.assertEqual(len(node.body), 1)
                self.assertRegex(ast.unparse(node.body[0]), r"^return iter\(self\._?[a-z]+\)$")
            if node.name == "__len__":
                self.assertRegex(ast.unparse(node.body[-1]), r"^return len\(self\._?[a-z]+\)$")

    def test_attributes_and_methods_have_different_names(self):
        for path, node in walk(ast.ClassDef):
            methods = {row.name for row in node.body if isinstance(row, ast.FunctionDef)}
            stored = {
                part.attr for part in ast.walk(node) if isinstance(part, ast.Attribute) and isinstance(part.ctx, ast.Store)
            }
            self.assertFalse(methods & stored, (path, node.name))

    def test_what_tells_assigns_nothing(self):
        for path, node in functions():
            if node.name in ("__eq__", "__str__", "__len__", "__repr__"):
                for part in ast.walk(node):
                    self.assertNotIsInstance(part, (ast.Assign, ast.AugAssign, ast.Delete), (path, node.name))

    def test_properties_and_methods_have_different_names(self):
        properties, methods = set(), set()
        for _, row in walk(ast.ClassDef):
            for node in row.body:
                if isinstance(node, ast.FunctionDef):
                    kinds = [decorator.id for decorator in node.decorator_list]
                    (properties if "property" in kinds else methods).add(node.name)
        self.assertFalse(properties & methods)

    def test_no_function_is_unused(self):
        used = {node.id for _, node in walk(ast.Name)} | {node.attr for _, node in walk(ast.Attribute)}
        text = (ROOT / "tests" / "test_interface.py").read_text(encoding="utf-8")
        for path, node in functions():
            if not node.name.startswith("__") and node.name not in used:
                self.assertIn(f'"{node.name}"', text.replace(" ", '" "'), (path, node.name))

    def test_generators(self):
        generators = []
        for path, node in functions():
            if any(isinstance(part, (ast.Yield, ast.YieldFrom)) for part in ast.walk(node)):
                generators.append(node.name)
                self.assertNotIn(node.name, METHODS)
                for part in ast.walk(node):
                    if isinstance(part, ast.Return):
                        self.assertIsNone(part.value)
        names = [node.name for _, node in functions()]
        for name in generators:
            self.assertEqual(names.count(name), 1)


if __name__ == "__main__":
    unittest.main()
