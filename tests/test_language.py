"""The rules of ../shared/LANGUAGE.md, as far as a look at the code can tell.

Where the rules depend on what else the package has (operators, `__eq__`, `__len__`,
`__getitem__`, an in-place operator to come), the stricter form is tested.
"""

import ast
import builtins
import pathlib
import re
import unittest

FOLDER = pathlib.Path(__file__).resolve().parent.parent / "shownwrites"
FILES = sorted(path for path in FOLDER.iterdir() if path.name != "__pycache__")
TREES = {path.stem: ast.parse(path.read_text()) for path in FILES}

USED = set("""len range enumerate zip min max sum abs sorted reversed int str bool bytes list tuple dict
    set frozenset isinstance ord repr any all divmod iter next map super property staticmethod classmethod
    Exception ValueError TypeError KeyError IndexError LookupError ZeroDivisionError ArithmeticError
    OverflowError RuntimeError NotImplementedError AttributeError StopIteration NotImplemented""".split())
METHODS = set("""append clear copy count endswith extend find get index insert isalnum isalpha isdigit
    islower isspace isupper items join keys ljust lower lstrip partition pop remove replace reverse rfind
    rjust rpartition rsplit rstrip setdefault split splitlines startswith strip update upper values zfill
    bit_length""".split())
DOUBLE = set("""init eq repr str len enter exit call iter lt le gt ge ne add sub mul floordiv mod pow and or
    xor lshift rshift radd iadd isub neg pos invert abs bool contains getitem setitem""".split())
WORDS = re.compile(r"\b(type|typing|typing_extensions|enum|Enum|IntEnum|StrEnum|Flag|IntFlag|Generic|"
                   r"Protocol|ABC|ABCMeta|namedtuple|NamedTuple|TypedDict|TYPE_CHECKING|abstractmethod)\b|"
                   r"dataclass|overload|contextmanager|_wall|_WallAttr|Meta|metaclass=")
BARRED = set("""register mro elements open input law version_info with_traceback add_note attrgetter
    breakpoint builtins compile copyright credits delattr dir eval exec exit gc getattr globals hasattr help
    id importlib license locals methodcaller os quit setattr super type vars sys""".split())
STATEMENTS = (ast.Assign, ast.AnnAssign, ast.If, ast.While, ast.For, ast.Return, ast.Break, ast.Continue,
              ast.Pass, ast.Raise, ast.Assert, ast.Delete, ast.Nonlocal, ast.Match, ast.With, ast.Try,
              ast.Expr, ast.FunctionDef, ast.ClassDef, ast.ImportFrom)
AT_ONCE = {"zip", "enumerate", "reversed", "map"}
NOT_OVER_GENERATORS = {"sorted", "any", "all", "min", "max", "sum"}


def nodes(kinds):
    """The nodes of these kinds, with the names of their files."""
    return [(name, node) for name, tree in TREES.items() for node in ast.walk(tree)
            if isinstance(node, kinds)]


def called(node):
    """The bare name that is called, if it is one."""
    return node.func.id if isinstance(node, ast.Call) and isinstance(node.func, ast.Name) else None


def bound_names():
    """All names that the package binds, with their files."""
    for name, node in nodes((ast.FunctionDef, ast.ClassDef)):
        yield name, node.name
    for name, node in nodes(ast.arg):
        yield name, node.arg
    for name, node in nodes(ast.Name):
        if isinstance(node.ctx, ast.Store):
            yield name, node.id
    for name, node in nodes(ast.ImportFrom):
        for alias in node.names:
            yield name, alias.name


class Files(unittest.TestCase):
    def test_folder(self):
        self.assertEqual([path.name for path in FILES if path.suffix != ".py"], [])
        for path in FILES:
            self.assertRegex(path.name, r"^[a-z_][a-z0-9_]*\.py$")
            self.assertNotIn(path.stem, dir(builtins))
        self.assertIn("__init__", TREES)

    def test_sizes_and_characters(self):
        for path in FILES:
            text = path.read_text()
            self.assertRegex(text, r"\A[ -~\n]*\Z", path.name)
            self.assertLessEqual(len(text.splitlines()), 399, path.name)
            self.assertLessEqual(max(map(len, text.splitlines())), 120, path.name)
        for name, node in nodes(ast.FunctionDef):
            self.assertLessEqual(node.end_lineno - node.lineno + 1, 40, (name, node.name))

    def test_words(self):
        for path in FILES:
            self.assertIsNone(WORDS.search(path.read_text()), path.name)


class Imports(unittest.TestCase):
    def test_form(self):
        for name, tree in TREES.items():
            rows = tree.body[1:] if ast.get_docstring(tree) else tree.body
            kinds = [isinstance(row, ast.ImportFrom) for row in rows]
            self.assertEqual(kinds, sorted(kinds, reverse=True), name)
        self.assertEqual(nodes(ast.Import), [])
        for name, node in nodes(ast.ImportFrom):
            self.assertIn(node.module.removeprefix("shownwrites."), TREES, name)
            self.assertEqual(node.level, 0)
            defined = [row.name for row in TREES[node.module.removeprefix("shownwrites.")].body
                       if isinstance(row, (ast.FunctionDef, ast.ClassDef))]
            defined += [row.targets[0].id for row in TREES[node.module.removeprefix("shownwrites.")].body
                        if isinstance(row, ast.Assign)]
            for alias in node.names:
                self.assertIsNone(alias.asname)
                self.assertIn(alias.name, defined, name)

    def test_no_circle(self):
        above = {name: {node.module.removeprefix("shownwrites.") for node in tree.body
                        if isinstance(node, ast.ImportFrom)} for name, tree in TREES.items()}
        for _ in TREES:
            done = [name for name in above if not above[name]]
            above = {name: used - set(done) for name, used in above.items() if name not in done}
        self.assertEqual(above, {})

    def test_imports_are_used_and_not_hidden(self):
        for name, tree in TREES.items():
            taken = [alias.name for row in tree.body if isinstance(row, ast.ImportFrom)
                     for alias in row.names]
            read = [node.id for node in ast.walk(tree) if isinstance(node, ast.Name)]
            self.assertEqual([word for word in taken if word not in read], [], name)
            stored = [node.id for node in ast.walk(tree)
                      if isinstance(node, ast.Name) and isinstance(node.ctx, ast.Store)]
            stored += [node.arg for node in ast.walk(tree) if isinstance(node, ast.arg)]
            hidden = taken + [row.name for row in tree.body
                              if isinstance(row, (ast.ClassDef, ast.FunctionDef))]
            self.assertEqual([word for word in stored if word in hidden], [], name)


class Statements(unittest.TestCase):
    def test_kinds(self):
        for name, node in nodes(ast.stmt):
            self.assertIsInstance(node, STATEMENTS, (name, node.lineno))
        for name, node in nodes(ast.Expr):
            allowed = (ast.Call, ast.Yield, ast.YieldFrom, ast.Constant)
            self.assertIsInstance(node.value, allowed, (name, node.lineno))

    def test_module_level(self):
        for name, tree in TREES.items():
            self.assertIsNotNone(ast.get_docstring(tree), name)
            for row in tree.body[1:]:
                self.assertIsInstance(row, (ast.ImportFrom, ast.FunctionDef, ast.ClassDef, ast.Assign))
                if isinstance(row, ast.Assign):
                    ast.literal_eval(row.value)

    def test_functions(self):
        for name, node in nodes(ast.FunctionDef):
            self.assertTrue(node.name == "__init__" or node.name.startswith("__")
                            or ast.get_docstring(node) or node.decorator_list, (name, node.name))
            marks = [mark.id for mark in node.decorator_list]
            self.assertTrue(set(marks) <= {"property", "staticmethod", "classmethod"}, node.name)
            for value in [*node.args.defaults, *node.args.kw_defaults]:
                if value is not None:
                    ast.literal_eval(value)
            if node.name.startswith("__"):
                self.assertIn(node.name.strip("_"), DOUBLE, name)

    def test_operators(self):
        forms = {"contains": ["self", "x"], "getitem": ["self", "at"], "setitem": ["self", "at", "worth"]}
        for name, node in nodes(ast.FunctionDef):
            word = node.name.strip("_")
            if node.name.startswith("__") and word not in ("init", "call"):
                single = word in ("neg", "bool", "str", "len", "iter", "repr")
                form = ["self"] if single else forms.get(word, ["self", "other"])
                self.assertEqual([arg.arg for arg in node.args.args], form, (name, node.name))
                ends = ast.Expr if word == "setitem" else (ast.Return, ast.Raise)
                self.assertIsInstance(node.body[-1], ends, (name, node.name))
        for name, node in nodes(ast.ClassDef):
            methods = [row.name for row in node.body if isinstance(row, ast.FunctionDef)]
            self.assertEqual(len(methods), len(set(methods)), node.name)
            if "__getitem__" in methods:
                self.assertIn("__iter__", methods, node.name)


class Tries(unittest.TestCase):
    def test_own_errors_alone_are_caught(self):
        own = {node.name for name, node in nodes(ast.ClassDef) if name in ("errors", "refusals")}
        for name, node in nodes(ast.ExceptHandler):
            caught = node.type.elts if isinstance(node.type, ast.Tuple) else [node.type]
            self.assertTrue({kind.id for kind in caught} <= own, (name, node.lineno))

    def test_finally(self):
        def check(rows, name):
            for row in rows:
                self.assertIsInstance(row, (ast.If, ast.Assign), (name, row.lineno))
                if isinstance(row, ast.If):
                    self.assertIsInstance(row.test.left, ast.Name, (name, row.lineno))
                    self.assertIsInstance(row.test.ops[0], (ast.Is, ast.IsNot), (name, row.lineno))
                    check([*row.body, *row.orelse], name)
                else:
                    given = row.value.elts if isinstance(row.value, ast.Tuple) else [row.value]
                    for value in given:
                        self.assertIsInstance(value, ast.Name, (name, row.lineno))
        for name, node in nodes(ast.Try):
            check(node.finalbody, name)


class Operators(unittest.TestCase):
    """What operators and properties run changes only what it creates itself."""

    def reached(self):
        """The functions that operators and properties run, as far as their names can tell."""
        functions = {}
        for name, node in nodes(ast.FunctionDef):
            functions.setdefault(node.name, []).append(node)
        changing = ("__init__", "__call__", "__iadd__", "__isub__", "__setitem__")
        left = [node for name, node in nodes(ast.FunctionDef)
                if (node.name.startswith("__") and node.name not in changing)
                or any(isinstance(mark, ast.Name) and mark.id == "property" for mark in node.decorator_list)]
        found = []
        while left:
            node = left.pop()
            if node not in found:
                found.append(node)
                for call in ast.walk(node):
                    if isinstance(call, ast.Call):
                        word = getattr(call.func, "id", getattr(call.func, "attr", None))
                        left += functions.get(word, [])
        return found

    def test_no_generator_is_run(self):
        """A generator changes what it holds with every step."""
        found = self.reached()
        self.assertTrue({"listed", "rows_of", "rows", "derivations"} <= {node.name for node in found})
        for node in found:
            for row in ast.walk(node):
                self.assertNotIsInstance(row, (ast.Yield, ast.YieldFrom), (node.name, node.lineno))

    def created(self, node):
        """The names of lists and dicts that the function creates in a form that L5 allows."""
        good = []
        for row in ast.walk(node):
            if isinstance(row, ast.Assign) and isinstance(row.targets[0], ast.Name):
                if isinstance(row.value, (ast.List, ast.Dict, ast.ListComp)) or (
                        called(row.value) in ("list", "dict", "sorted")):
                    good.append(row.targets[0].id)
        return good

    def test_changes(self):
        changing = {"append", "extend", "insert", "pop", "remove", "clear", "update", "setdefault", "reverse"}
        found = self.reached()
        self.assertGreater(len(found), 60)
        for node in found:
            changed = [row.value for row in ast.walk(node) if isinstance(row, (ast.Subscript, ast.Attribute))
                       and isinstance(row.ctx, (ast.Store, ast.Del))]
            changed += [row.func.value for row in ast.walk(node) if isinstance(row, ast.Call)
                        and isinstance(row.func, ast.Attribute) and row.func.attr in changing]
            for value in changed:
                self.assertIsInstance(value, ast.Name, (node.name, node.lineno))
                self.assertIn(value.id, self.created(node), (node.name, node.lineno))


class Expressions(unittest.TestCase):
    def test_not_allowed(self):
        barred = (ast.Set, ast.SetComp, ast.GeneratorExp, ast.NamedExpr, ast.Div, ast.MatMult, ast.Await,
                  ast.AugAssign, ast.Global)
        for name, node in nodes(barred):
            self.fail((name, getattr(node, "lineno", None), node))

    def test_constants(self):
        for name, node in nodes(ast.Constant):
            self.assertNotIsInstance(node.value, (float, complex), name)
            if isinstance(node.value, str):
                self.assertNotIn("%", node.value, name)
                self.assertFalse(node.value.endswith(("._", ".__")), name)

    def test_names(self):
        for name, word in bound_names():
            self.assertRegex(word, r"\A(__[a-z]+__|_?[A-Za-z][A-Za-z0-9_]*|_)\Z", name)
            self.assertNotIn(word, BARRED, name)
            self.assertNotIn(word, dir(builtins), name)
        for name, node in nodes(ast.Name):
            if node.id in dir(builtins):
                self.assertIn(node.id, USED, name)
            self.assertFalse(node.id == "_" and isinstance(node.ctx, ast.Load), name)

    def test_attributes_and_methods(self):
        own = {node.name for _, node in nodes(ast.FunctionDef)}
        for name, node in nodes(ast.Call):
            if isinstance(node.func, ast.Attribute):
                self.assertIn(node.func.attr, METHODS | own, (name, node.lineno))
        stored = {node.attr for _, node in nodes(ast.Attribute) if isinstance(node.ctx, ast.Store)}
        methods = {row.name for _, node in nodes(ast.ClassDef) for row in node.body
                   if isinstance(row, ast.FunctionDef)}
        self.assertEqual(stored & methods, set())
        for name, node in nodes(ast.Attribute):
            self.assertIn(node.attr, stored | methods | METHODS, (name, node.lineno))
        self.assertEqual(stored & {"items", "keys", "values", "pop", "update", "append", "clear", "extend",
                                   "insert", "remove", "reverse", "setdefault", "sort", "args"}, set())

    def test_sets_stand_where_they_may(self):
        good = []
        for _, node in nodes(ast.Call):
            if called(node) in ("sorted", "len") and not node.keywords:
                good += [argument for argument in node.args if called(argument) == "set"]
        for name, node in nodes(ast.Call):
            if called(node) == "set":
                self.assertIn(node, good, (name, node.lineno))

    def test_iterated_at_once(self):
        good = [node.iter for _, node in nodes((ast.For, ast.comprehension))]
        for _, node in nodes(ast.Call):
            if called(node) in ("list", "tuple", "dict", "sorted", "sum", "any", "all"):
                good += node.args[:1]
        for name, node in nodes(ast.Call):
            if called(node) in AT_ONCE or isinstance(node.func, ast.Attribute) and node.func.attr in (
                    "items", "keys", "values"):
                self.assertIn(node, good, (name, node.lineno))

    def test_generators_are_iterated_at_once(self):
        makers = {node.name for _, node in nodes(ast.FunctionDef)
                  if any(isinstance(row, (ast.Yield, ast.YieldFrom)) for row in ast.walk(node))}
        good = [node.iter for _, node in nodes((ast.For, ast.comprehension))]
        good += [node.value for _, node in nodes(ast.YieldFrom)]
        for _, node in nodes(ast.Call):
            if called(node) in ("list", "tuple", "sorted"):
                good += node.args[:1]
        for name, node in nodes(ast.Call):
            if called(node) in makers:
                self.assertIn(node, good, (name, node.lineno))
                for argument in node.args:
                    self.assertIsInstance(argument, (ast.Name, ast.Attribute, ast.Constant, ast.Tuple))

    def test_is_only_with_none(self):
        for name, node in nodes(ast.Compare):
            for sign, right in zip(node.ops, node.comparators):
                if isinstance(sign, (ast.Is, ast.IsNot)):
                    self.assertIsInstance(right, ast.Constant, (name, node.lineno))

    def test_raised_on_the_spot(self):
        for name, node in nodes(ast.Raise):
            self.assertIsInstance(node.exc, ast.Call, (name, node.lineno))
            self.assertRegex(called(node.exc) or "", r"\A[A-Z]", (name, node.lineno))
            self.assertEqual(node.exc.keywords, [], (name, node.lineno))


if __name__ == "__main__":
    unittest.main()
