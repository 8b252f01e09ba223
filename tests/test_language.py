"""The package keeps to the small part of Python that is asked for, as far as a walk through its trees can see."""

import ast
import builtins
import pathlib
import re
import unittest

PACKAGE = pathlib.Path(__file__).resolve().parent.parent / "errandroom"
FILES = sorted(PACKAGE.rglob("*.py"))

ALLOWED_NODES = (
    ast.Module, ast.FunctionDef, ast.ClassDef, ast.arguments, ast.arg, ast.Lambda, ast.Return, ast.Assign, ast.AugAssign,
    ast.For, ast.While, ast.If, ast.Break, ast.Continue, ast.Pass, ast.Raise, ast.Try, ast.ExceptHandler, ast.Expr,
    ast.ImportFrom, ast.alias, ast.Call, ast.keyword, ast.Attribute, ast.Subscript, ast.Slice, ast.Name, ast.Constant,
    ast.List, ast.Tuple, ast.Dict, ast.ListComp, ast.comprehension, ast.BoolOp, ast.BinOp, ast.UnaryOp, ast.Compare,
    ast.IfExp, ast.JoinedStr, ast.FormattedValue, ast.expr_context, ast.boolop, ast.operator, ast.unaryop, ast.cmpop,
)
PYTHONS_OWN = set(
    """len range enumerate zip min max sum abs sorted reversed int str bool list tuple dict set frozenset isinstance ord
    repr any all divmod Exception ValueError TypeError KeyError IndexError LookupError ZeroDivisionError ArithmeticError
    OverflowError RuntimeError NotImplementedError AttributeError StopIteration""".split()
)
METHODS = set(
    """append clear copy count endswith extend find get index insert isalnum isalpha isdigit islower isspace isupper items
    join keys ljust lower lstrip partition pop remove replace reverse rfind rjust rpartition rsplit rstrip setdefault split
    splitlines startswith strip update upper values zfill bit_length""".split()
)
TWO_UNDERSCORES = ("__init__", "__eq__", "__repr__", "__str__", "__len__")
WORDS_NOWHERE = set(
    """type typing typing_extensions enum Enum IntEnum StrEnum Flag IntFlag Generic Protocol ABC ABCMeta namedtuple
    NamedTuple TypedDict TYPE_CHECKING abstractmethod""".split()
)
NAMES_NOWHERE = set(
    """register mro elements open input version_info with_traceback add_note format format_map chr sort""".split()
)
# In the place of these an object's value would hide something of Python's own errors and texts.
VALUES_NOWHERE = ("args", "encode")
WALKED = ("zip", "enumerate", "reversed", "range")
WALKERS = ("list", "tuple", "dict", "sorted", "sum", "any", "all", "enumerate", "zip", "min", "max")


def trees():
    for path in FILES:
        yield path, ast.parse(path.read_text(encoding="ascii"))


def nodes(kind):
    for path, tree in trees():
        for node in ast.walk(tree):
            if isinstance(node, kind):
                yield path, node


def called(node, names):
    return isinstance(node, ast.Call) and isinstance(node.func, ast.Name) and node.func.id in names


class Language(unittest.TestCase):
    def check(self, holds, path, node, words):
        self.assertTrue(holds, f"{path.name}:{getattr(node, 'lineno', '?')}: {words}")

    def test_only_plain_files_lie_in_the_package(self):
        self.assertIn(PACKAGE / "__init__.py", FILES)
        for path in PACKAGE.iterdir():
            if path.name != "__pycache__":
                self.assertRegex(path.name, r"^(__init__|__main__|[a-z][a-z0-9_]*)\.py$")
                self.assertNotIn(path.stem, dir(builtins))
                self.assertIsNone(re.match(r"tests?$|testing$|test_|site$|conftest$|sitecustomize$", path.stem))

    def test_signs_and_sizes(self):
        for path in FILES:
            text = path.read_text(encoding="ascii")
            self.assertTrue(all(sign == "\n" or " " <= sign <= "~" for sign in text), path)
            lines = text.split("\n")
            self.assertLessEqual(len(lines), 401, path)
            self.assertLessEqual(max(map(len, lines)), 120, path)
            for word in re.findall(r"\w+", text):
                self.assertNotIn(word, WORDS_NOWHERE, path)
                self.assertIsNone(re.search("dataclass|overload|contextmanager", word), path)
        for path, node in nodes(ast.FunctionDef):
            self.check(node.end_lineno - node.lineno < 40, path, node, "a function of more than 40 lines")

    def test_kinds_of_nodes(self):
        for path, node in nodes(ast.AST):
            self.check(isinstance(node, ALLOWED_NODES), path, node, type(node).__name__)
            if isinstance(node, (ast.For, ast.While)):
                self.check(not node.orelse, path, node, "an else behind a loop")
            if isinstance(node, ast.Assign):
                self.check(len(node.targets) == 1, path, node, "several targets")
                self.check(not isinstance(node.targets[0], (ast.Tuple, ast.List)), path, node, "several targets")
            if isinstance(node, ast.Try):
                self.check(not node.finalbody, path, node, "finally")
            if isinstance(node, (ast.Div, ast.MatMult)):
                self.check(False, path, node, "a sign that is out")
            if isinstance(node, ast.ListComp):
                self.check(len(node.generators) == 1 and len(node.generators[0].ifs) < 2, path, node, "comprehension")
            if isinstance(node, ast.Constant):
                self.check(isinstance(node.value, (int, str, type(None))), path, node, "a value that is out")
                self.check("%" not in str(node.value), path, node, "a percent sign")

    def test_expressions_that_stand_alone(self):
        for path, tree in trees():
            docstrings = [tree.body[0]] if tree.body else []
            for node in ast.walk(tree):
                if isinstance(node, ast.Expr) and node not in docstrings:
                    self.check(isinstance(node.value, ast.Call), path, node, "an expression by itself")

    def test_functions_and_classes(self):
        for path, node in nodes((ast.FunctionDef, ast.Lambda)):
            given = node.args
            self.check(not (given.vararg or given.kwarg or given.kwonlyargs or given.posonlyargs), path, node, "parameters")
            for default in given.defaults:
                self.check(isinstance(default, ast.Constant), path, node, "a default that is not plain")
        for path, node in nodes((ast.FunctionDef, ast.ClassDef)):
            self.check(not node.decorator_list, path, node, "a decorator")
        for path, node in nodes(ast.ClassDef):
            self.check(len(node.bases) < 2 and not node.keywords, path, node, "bases")
            self.check(all(isinstance(part, (ast.FunctionDef, ast.Pass)) for part in node.body), path, node, "class body")
            methods = [part.name for part in node.body if isinstance(part, ast.FunctionDef)]
            self.check(len(set(methods)) == len(methods), path, node, "a method twice")
            self.check(
                all(name in TWO_UNDERSCORES or not name.startswith("_") for name in methods), path, node, "a method's name"
            )

    def test_the_top_of_each_file(self):
        for path, tree in trees():
            self.check(ast.get_docstring(tree) is not None, path, tree, "no docstring")
            bound = []
            for node in tree.body[1:]:
                kinds = (ast.ImportFrom, ast.FunctionDef, ast.ClassDef, ast.Assign)
                self.check(isinstance(node, kinds), path, node, "at the top")
                if isinstance(node, ast.ImportFrom):
                    bound += [alias.name for alias in node.names]
                elif isinstance(node, ast.Assign):
                    bound.append(node.targets[0].id)
                    for part in ast.walk(node.value):
                        plain = (ast.Constant, ast.Tuple, ast.List, ast.Dict, ast.Name, ast.expr_context)
                        self.check(isinstance(part, plain), path, node, "no plain value")
                else:
                    bound.append(node.name)
            self.assertEqual(len(set(bound)), len(bound), path)

    def test_imports(self):
        drawn = {}
        defined = {}
        for path, tree in trees():
            drawn[path.stem] = []
            defined[path.stem] = [
                node.name if not isinstance(node, ast.Assign) else node.targets[0].id
                for node in tree.body if isinstance(node, (ast.FunctionDef, ast.ClassDef, ast.Assign))
            ]
            for node in ast.walk(tree):
                if isinstance(node, ast.ImportFrom):
                    self.check(node in tree.body and node.level == 0, path, node, "an import")
                    self.check(node.module.startswith("errandroom."), path, node, "an import from elsewhere")
                    self.check(all(alias.asname is None for alias in node.names), path, node, "another name")
                    drawn[path.stem].append((node.module.split(".")[1], [alias.name for alias in node.names]))
        for stem, rows in drawn.items():
            for module, names in rows:
                for name in names:
                    self.assertIn(name, defined[module], f"{stem} draws {name} from {module}")
        left = {stem: {module for module, _ in rows} for stem, rows in drawn.items()}
        while left:
            free = [stem for stem, modules in left.items() if not modules & set(left)]
            self.assertTrue(free, f"files draw from one another: {sorted(left)}")
            left = {stem: modules for stem, modules in left.items() if stem not in free}

    def test_names(self):
        own = set(dir(builtins))
        for path, tree in trees():
            top = [node.name for node in tree.body if isinstance(node, ast.ClassDef)]
            top += [alias.name for node in tree.body if isinstance(node, ast.ImportFrom) for alias in node.names]
            for node in ast.walk(tree):
                if isinstance(node, ast.Name) and isinstance(node.ctx, ast.Load) and node.id in own:
                    self.check(node.id in PYTHONS_OWN, path, node, node.id)
                given = None
                if isinstance(node, ast.Name) and isinstance(node.ctx, ast.Store):
                    given = node.id
                if isinstance(node, ast.arg):
                    given = node.arg
                    self.check(node.annotation is None, path, node, "an annotation")
                if isinstance(node, ast.ExceptHandler):
                    given = node.name
                if isinstance(node, ast.FunctionDef) and node.name not in TWO_UNDERSCORES:
                    self.check(not node.name.startswith("_"), path, node, node.name)
                    self.check(node.name not in NAMES_NOWHERE, path, node, node.name)
                if given is not None:
                    self.check(given not in own and given not in top, path, node, given)
                    self.check(not given.startswith("_") and given not in NAMES_NOWHERE, path, node, given)

    def test_methods_and_values_of_objects(self):
        methods, values = set(), set()
        pythons = set().union(*(dir(kind) for kind in (str, int, list, dict, set, bytes, tuple)))
        for _, node in nodes(ast.ClassDef):
            methods |= {part.name for part in node.body if isinstance(part, ast.FunctionDef)} - set(TWO_UNDERSCORES)
        for path, node in nodes(ast.Attribute):
            self.check(node.attr not in NAMES_NOWHERE, path, node, node.attr)
            if isinstance(node.ctx, ast.Store):
                values.add(node.attr)
                self.check(isinstance(node.value, ast.Name), path, node, "a value not given through a local name")
                self.check(node.attr not in VALUES_NOWHERE, path, node, node.attr)
                self.check(node.attr not in pythons or node.attr in ("count", "index"), path, node, node.attr)
        self.assertEqual(methods & values, set())
        for path, node in nodes(ast.Call):
            if isinstance(node.func, ast.Attribute):
                self.check(node.func.attr in METHODS | methods | {"__init__"}, path, node, node.func.attr)

    def test_compared_by_is(self):
        for path, node in nodes(ast.Compare):
            for sign, right in zip(node.ops, node.comparators):
                if isinstance(sign, (ast.Is, ast.IsNot)):
                    self.check(isinstance(right, ast.Constant) and not isinstance(right.value, str), path, node, "is")

    def test_walked_at_once(self):
        for path, tree in trees():
            walked = []
            for node in ast.walk(tree):
                if isinstance(node, (ast.For, ast.comprehension)):
                    walked.append(node.iter)
                if called(node, WALKERS):
                    walked += node.args
                if isinstance(node, ast.Call) and isinstance(node.func, ast.Attribute) and node.func.attr == "join":
                    walked += node.args
                    self.check(isinstance(node.func.value, ast.Constant), path, node, "join of no written text")
            for node in ast.walk(tree):
                views = isinstance(node, ast.Call) and isinstance(node.func, ast.Attribute)
                views = views and node.func.attr in ("items", "keys", "values")
                if called(node, WALKED) or views:
                    self.check(node in walked, path, node, "kept, not walked")
                if called(node, ("any", "all", "sum", "min", "max")):
                    self.check(not any(isinstance(arg, ast.GeneratorExp) for arg in node.args), path, node, "generator")

    def test_sets_are_asked_on_the_spot(self):
        for path, tree in trees():
            right = []
            for node in ast.walk(tree):
                if called(node, ("sorted", "len")):
                    right += node.args
                if isinstance(node, ast.Compare):
                    right += node.comparators + [node.left]
            for node in ast.walk(tree):
                if called(node, ("set", "frozenset")):
                    self.check(node in right, path, node, "a set that is kept")

    def test_errors_taken(self):
        for path, node in nodes(ast.ExceptHandler):
            self.check(node.type is not None, path, node, "takes all")
            for name in ast.walk(node.type):
                if isinstance(name, ast.Name):
                    self.check(name.id not in ("Exception", "TypeError"), path, node, name.id)
        for path, node in nodes(ast.Raise):
            self.check(isinstance(node.exc, ast.Call), path, node, "raise makes no error")


if __name__ == "__main__":
    unittest.main()
