"""The form of the code of the package, as far as it can be seen in its syntax trees."""

import ast
import builtins
import re
import unittest
from pathlib import Path

PACKAGE = Path(__file__).resolve().parent.parent / "anypasses"
FILES = {path.stem: path for path in sorted(PACKAGE.glob("*.py"))}
TREES = {name: ast.parse(path.read_text()) for name, path in FILES.items()}

BUILTINS = set(
    "len range enumerate zip min max sum abs sorted reversed int str bool bytes list tuple dict set frozenset"
    " isinstance ord repr any all divmod pow getattr hasattr setattr Exception ValueError TypeError KeyError"
    " IndexError LookupError ZeroDivisionError ArithmeticError OverflowError RuntimeError NotImplementedError"
    " AttributeError StopIteration NotImplemented iter next super property staticmethod classmethod".split()
)
METHODS = set(
    "append clear copy count endswith extend find get index insert isalnum isalpha isdigit islower isspace isupper"
    " items join keys ljust lower lstrip partition pop remove replace reverse rfind rjust rpartition rsplit rstrip"
    " setdefault split splitlines startswith strip update upper values zfill bit_length sort add discard".split()
)
BARRED_ANYWHERE = set("register mro elements open input law version_info with_traceback add_note".split())
BARRED_NAMES = set(
    "attrgetter breakpoint builtins compile copyright credits delattr dir eval exec exit gc getattr globals hasattr"
    " help id importlib license locals methodcaller os quit setattr super type vars sys map filter hash".split()
)
BARRED_WORDS = set(
    "typing typing_extensions enum Enum IntEnum StrEnum Flag IntFlag Generic Protocol ABC ABCMeta namedtuple"
    " NamedTuple TypedDict TYPE_CHECKING abstractmethod".split()
)
STATEMENTS = (
    ast.Assign, ast.AugAssign, ast.If, ast.While, ast.For, ast.Return, ast.Break, ast.Continue, ast.Pass, ast.Raise,
    ast.Assert, ast.Delete, ast.Try, ast.Expr, ast.FunctionDef, ast.ClassDef, ast.ImportFrom, ast.Match, ast.With,
)
ITERATING = ("list", "tuple", "dict", "sorted", "sum", "any", "all", "enumerate", "zip", "min", "max")


def functions_in(tree):
    return [node for node in ast.walk(tree) if isinstance(node, ast.FunctionDef)]


def bound_in(function):
    """The names of parameters and local variables, those of comprehensions and lambdas among them."""
    names = [arg.arg for node in ast.walk(function) if isinstance(node, ast.arguments)
             for arg in node.posonlyargs + node.args + node.kwonlyargs]
    names += [node.id for node in ast.walk(function) if isinstance(node, ast.Name) and isinstance(node.ctx, ast.Store)]
    return set(names)


def module_names(tree):
    names = []
    for node in tree.body:
        if isinstance(node, (ast.FunctionDef, ast.ClassDef)):
            names.append(node.name)
        elif isinstance(node, ast.Assign):
            names.extend(target.id for target in node.targets)
        elif isinstance(node, ast.ImportFrom):
            names.extend(alias.name for alias in node.names)
    return names


def with_parents(tree):
    parents = {}
    for node in ast.walk(tree):
        for child in ast.iter_child_nodes(node):
            parents[child] = node
    return parents


def is_docstring(node, parents):
    return isinstance(parents.get(node), ast.Expr)


OWN_METHODS = {node.name for tree in TREES.values() for owner in ast.walk(tree) if isinstance(owner, ast.ClassDef)
               for node in owner.body if isinstance(node, ast.FunctionDef)}


def for_each_file(check):
    """A test that makes this check of each file's name and tree."""

    def test(self):
        for name, tree in TREES.items():
            with self.subTest(file=name):
                check(self, name, tree)

    return test


class Language(unittest.TestCase):
    def test_files(self):
        for path in PACKAGE.iterdir():
            if path.name != "__pycache__":
                self.assertRegex(path.name, r"^[a-z0-9_]+\.py$")
        self.assertLessEqual(len(FILES), 100)
        for name, path in FILES.items():
            text = path.read_text()
            with self.subTest(file=name):
                self.assertTrue(all(sign == "\n" or " " <= sign <= "~" for sign in text))
                self.assertLess(text.count("\n"), 400)
                self.assertLessEqual(max(map(len, text.split("\n"))), 120)

    @for_each_file
    def test_functions_are_small(self, name, tree):
        for node in functions_in(tree):
            self.assertLessEqual(node.end_lineno - node.lineno + 1, 40, node.name)
            self.assertEqual(node.decorator_list, [], node.name)
            self.assertTrue(all(isinstance(value, ast.Constant) for value in node.args.defaults), node.name)

    @for_each_file
    def test_module_level(self, name, tree):
        for place, node in enumerate(tree.body):
            allowed = (ast.FunctionDef, ast.ClassDef, ast.Assign, ast.ImportFrom)
            doc = place == 0 and isinstance(node, ast.Expr) and isinstance(node.value, ast.Constant)
            self.assertTrue(doc or isinstance(node, allowed), node.lineno)
            if isinstance(node, ast.Assign):
                self.assertEqual([type(target) for target in node.targets], [ast.Name])
                self.assertFalse([part for part in ast.walk(node.value) if isinstance(part, (ast.Call, ast.Set))])
        names = module_names(tree)
        self.assertEqual(len(names), len(set(names)), names)

    def test_imports(self):
        reach = {}
        for name, tree in TREES.items():
            reach[name] = set()
            for node in ast.walk(tree):
                self.assertNotIsInstance(node, ast.Import)
                if not isinstance(node, ast.ImportFrom):
                    continue
                self.assertIn(node, tree.body)
                self.assertEqual(node.level, 0)
                self.assertRegex(node.module, r"^anypasses\.")
                other = node.module.split(".")[1]
                reach[name].add(other)
                defined = [part.name for part in TREES[other].body if isinstance(part, (ast.FunctionDef, ast.ClassDef))]
                defined += [part.targets[0].id for part in TREES[other].body if isinstance(part, ast.Assign)]
                for alias in node.names:
                    self.assertIsNone(alias.asname)
                    self.assertIn(alias.name, defined)
        for _ in reach:
            for name in reach:
                reach[name] |= {far for near in reach[name] for far in reach[near]}
        self.assertEqual([name for name in reach if name in reach[name]], [])

    def test_names_of_methods_and_attributes(self):
        """No name is both, so that none can be taken for the other."""
        attributes = {node.attr for tree in TREES.values() for node in ast.walk(tree)
                      if isinstance(node, ast.Attribute) and isinstance(node.ctx, ast.Store)}
        self.assertFalse(attributes & OWN_METHODS)

    @for_each_file
    def test_ends_that_always_come(self, name, tree):
        """A `finally` has nothing but plain assignments, and `__len__` tells the length of something."""
        for node in ast.walk(tree):
            if isinstance(node, ast.Try):
                for row in node.finalbody:
                    self.assertIsInstance(row, ast.Assign)
                    self.assertIsInstance(row.value, (ast.Name, ast.Attribute))
            if isinstance(node, ast.FunctionDef) and node.name == "__len__":
                self.assertRegex(ast.unparse(node.body[-1]), r"^return len\(self\.\w+\)$")

    @for_each_file
    def test_imports_are_used(self, name, tree):
        used = {node.id for node in ast.walk(tree) if isinstance(node, ast.Name)}
        for node in tree.body:
            if isinstance(node, ast.ImportFrom):
                self.assertLessEqual({alias.name for alias in node.names}, used)

    @for_each_file
    def test_statements(self, name, tree):
        for node in ast.walk(tree):
            if isinstance(node, ast.stmt):
                self.assertIsInstance(node, STATEMENTS, node.lineno)
            self.assertNotIsInstance(node, (ast.Yield, ast.YieldFrom, ast.Await, ast.Div), getattr(node, "lineno", 0))
            if isinstance(node, ast.Compare):
                for sign, side in zip(node.ops, node.comparators):
                    if isinstance(sign, (ast.Is, ast.IsNot)):
                        self.assertIn(getattr(side, "value", 7), (None, True, False), node.lineno)
            if isinstance(node, ast.Constant):
                self.assertNotIsInstance(node.value, float)

    @for_each_file
    def test_names(self, name, tree):
        python_names = set(dir(builtins))
        outer = {node.name for node in tree.body if isinstance(node, ast.ClassDef)}
        outer |= {alias.name for node in tree.body if isinstance(node, ast.ImportFrom) for alias in node.names}
        names = set(module_names(tree))
        for function in functions_in(tree):
            self.assertFalse(bound_in(function) & outer, function.name)
            names |= bound_in(function) | {function.name}
        names |= {node.attr for node in ast.walk(tree) if isinstance(node, ast.Attribute)}
        own = {node.attr for node in ast.walk(tree) if isinstance(node, ast.Attribute)}
        self.assertFalse(names & BARRED_ANYWHERE)
        self.assertFalse((names - own) & BARRED_NAMES)
        self.assertFalse({found for found in names - own if found in python_names and found != "__init__"})
        for found in names - {"__init__", "__len__"}:
            self.assertRegex(found, r"^(_|_?[A-Za-z][A-Za-z0-9_]*)$")

    @for_each_file
    def test_words(self, name, tree):
        parents = with_parents(tree)
        text = FILES[name].read_text()
        self.assertFalse(set(re.findall(r"\w+", text)) & BARRED_WORDS)
        self.assertNotRegex(text, "dataclass|overload|contextmanager|_wall|_WallAttr|\t")
        for node in ast.walk(tree):
            if isinstance(node, ast.Constant) and isinstance(node.value, str) and not is_docstring(node, parents):
                self.assertNotRegex(node.value, "%|[.]_+$|^__.*__$")
            if isinstance(node, ast.Name):
                self.assertNotEqual(node.id, "type")

    @for_each_file
    def test_builtins_and_methods(self, name, tree):
        known = set(module_names(tree))
        for node in ast.walk(tree):
            if isinstance(node, ast.FunctionDef):
                known |= bound_in(node) | {node.name}
        parents = with_parents(tree)
        for node in ast.walk(tree):
            if isinstance(node, ast.Name) and isinstance(node.ctx, ast.Load) and node.id not in known:
                self.assertIn(node.id, BUILTINS, node.lineno)
            if isinstance(node, ast.Attribute) and isinstance(parents[node], ast.Call) and parents[node].func == node:
                self.assertIn(node.attr, METHODS | OWN_METHODS, node.lineno)

    @for_each_file
    def test_iterated_at_once(self, name, tree):
        parents = with_parents(tree)
        for node in ast.walk(tree):
            if not isinstance(node, ast.Call):
                continue
            word = node.func.id if isinstance(node.func, ast.Name) else node.func.attr
            above = parents[node]
            loop = isinstance(above, (ast.For, ast.comprehension)) and above.iter == node
            called = isinstance(above, ast.Call) and isinstance(above.func, ast.Name) and above.func.id in ITERATING
            if word in ("range", "zip", "enumerate", "reversed", "items", "keys", "values"):
                self.assertTrue(loop or called, node.lineno)

    @for_each_file
    def test_sets(self, name, tree):
        parents = with_parents(tree)
        for node in ast.walk(tree):
            made = isinstance(node, ast.Call) and isinstance(node.func, ast.Name) and node.func.id == "set"
            if made or isinstance(node, (ast.Set, ast.SetComp)):
                above = parents[node]
                told = isinstance(above, ast.Call) and getattr(above.func, "id", "") in ("sorted", "len")
                kept = isinstance(above, ast.Assign) and isinstance(above.targets[0], ast.Name)
                self.assertTrue(told or kept or isinstance(above, ast.Compare), node.lineno)
            self.assertNotIsInstance(node, ast.GeneratorExp)

    @for_each_file
    def test_exponents(self, name, tree):
        for node in ast.walk(tree):
            if isinstance(node, ast.BinOp) and isinstance(node.op, ast.Pow):
                self.assertIsInstance(node.right, ast.Constant, node.lineno)
                self.assertIn(node.right.value, range(65))

    @for_each_file
    def test_module_level_tables_are_only_read(self, name, tree):
        parents = with_parents(tree)
        tables = {node.targets[0].id for node in tree.body if isinstance(node, ast.Assign)
                  and isinstance(node.value, (ast.Dict, ast.List))}
        for node in ast.walk(tree):
            if isinstance(node, ast.Name) and node.id in tables and isinstance(node.ctx, ast.Load):
                above = parents[node]
                self.assertIsInstance(above, (ast.Subscript, ast.Compare, ast.Attribute, ast.For), node.lineno)


if __name__ == "__main__":
    unittest.main()
