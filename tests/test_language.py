"""Holds the package to the rules of shared/LANGUAGE.md that can be seen file by file."""

import ast
import builtins
import pathlib
import re
import unittest

PACKAGE = pathlib.Path(__file__).resolve().parent.parent / "meetrow"
LIBRARY = {
    "heapq": {"heappush", "heappop", "heapify", "heapreplace", "heappushpop"},
    "math": {"gcd", "lcm", "isqrt", "comb", "perm", "factorial"},
    "itertools": {"product", "combinations", "permutations", "chain", "accumulate", "pairwise", "islice",
                  "zip_longest"},
    "collections": {"defaultdict"},
}
BUILTINS = set(
    "len range enumerate zip min max sum abs sorted reversed int str bool bytes list tuple dict set frozenset isinstance"
    " ord repr any all divmod pow map iter next Exception ValueError TypeError KeyError IndexError LookupError"
    " ZeroDivisionError ArithmeticError OverflowError RuntimeError NotImplementedError AttributeError StopIteration"
    " NotImplemented".split()
)
METHODS = set(
    "append clear copy count endswith extend find get index insert isalnum isalpha isdigit islower isspace isupper items"
    " join keys ljust lower lstrip partition pop remove replace reverse rfind rjust rpartition rsplit rstrip setdefault"
    " split splitlines startswith strip update upper values zfill bit_length title capitalize swapcase casefold center"
    " expandtabs removeprefix removesuffix rindex isascii isdecimal isnumeric istitle isidentifier isprintable translate"
    " encode decode hex fromhex to_bytes from_bytes add discard".split()
)
DOUBLE = {"__init__", "__eq__", "__repr__", "__str__", "__len__"}
STATEMENTS = (
    ast.FunctionDef, ast.ClassDef, ast.ImportFrom, ast.Assign, ast.AugAssign, ast.If, ast.While, ast.For, ast.Return,
    ast.Break, ast.Continue, ast.Pass, ast.Raise, ast.Assert, ast.Delete, ast.Nonlocal, ast.Try, ast.Expr, ast.Match,
)
BARRED_EXPRESSIONS = (
    ast.Await, ast.Yield, ast.YieldFrom, ast.Div, ast.MatMult, ast.Set, ast.NamedExpr, ast.AsyncFor, ast.Global,
)
BARRED_NAMES = set(
    "register mro elements open input law version_info with_traceback add_note attrgetter breakpoint builtins compile"
    " copyright credits delattr dir eval exec exit gc getattr globals hasattr help id importlib license locals"
    " methodcaller os quit setattr super type vars sys".split()
)
BARRED_WORDS = re.compile(
    r"\b(type|typing|typing_extensions|enum|Enum|IntEnum|StrEnum|Flag|IntFlag|Generic|Protocol|ABC|ABCMeta|namedtuple"
    r"|NamedTuple|TypedDict|TYPE_CHECKING|abstractmethod)\b|dataclass|overload|contextmanager|_wall|_WallAttr"
)
FILES = sorted(PACKAGE.rglob("*.py"))
TREES = {path: ast.parse(path.read_text(encoding="utf-8")) for path in FILES}


def nodes(*kinds):
    for path, tree in TREES.items():
        for node in ast.walk(tree):
            if isinstance(node, kinds):
                yield f"{path.name}:{getattr(node, 'lineno', '?')}", node


def bound_names(tree):
    """The names that a file binds: its functions, classes, parameters, variables."""
    for node in ast.walk(tree):
        if isinstance(node, (ast.FunctionDef, ast.ClassDef)):
            yield node.name
        elif isinstance(node, ast.arg):
            yield node.arg
        elif isinstance(node, ast.Name) and isinstance(node.ctx, (ast.Store, ast.Del)):
            yield node.id
        elif isinstance(node, ast.alias):
            yield node.asname or node.name


def own_methods():
    return {part.name for _, node in nodes(ast.ClassDef) for part in node.body if isinstance(part, ast.FunctionDef)}


def is_call_of(node, *names):
    return isinstance(node, ast.Call) and isinstance(node.func, ast.Name) and node.func.id in names


class Files(unittest.TestCase):
    def test_the_folder_holds_plain_files_alone(self):
        for path in PACKAGE.rglob("*"):
            if "__pycache__" not in path.parts:
                self.assertTrue(path.is_file(), path)
                self.assertRegex(path.name, r"^([a-z][a-z0-9_]*|__init__|__main__)\.py$")
        self.assertTrue((PACKAGE / "__init__.py").is_file())

    def test_sizes(self):
        for path in FILES:
            rows = path.read_text(encoding="utf-8").split("\n")
            self.assertLessEqual(len(rows), 399, path)
            self.assertLessEqual(max(map(len, rows)), 120, path)
        for where, node in nodes(ast.FunctionDef):
            self.assertLessEqual(node.end_lineno - node.lineno + 1, 40, where)

    def test_signs_and_words(self):
        for path in FILES:
            text = path.read_text(encoding="utf-8")
            self.assertRegex(text, r"\A[ -~\n]*\Z", path)
            self.assertIsNone(BARRED_WORDS.search(text), path)

    def test_strings_have_no_percent_sign_and_few_escapes(self):
        for where, node in nodes(ast.Constant):
            if isinstance(node.value, str):
                self.assertNotIn("%", node.value, where)
                self.assertRegex(node.value, r"\A[ -~\n\t]*\Z", where)
            self.assertNotIsInstance(node.value, (float, complex), where)


class Imports(unittest.TestCase):
    def test_each_names_the_file_that_defines(self):
        for where, node in nodes(ast.Import):
            self.fail(where)
        for where, node in nodes(ast.ImportFrom):
            self.assertEqual(node.level, 0, where)
            for alias in node.names:
                self.assertIsNone(alias.asname, where)
                if node.module in LIBRARY:
                    self.assertIn(alias.name, LIBRARY[node.module], where)
                    continue
                self.assertRegex(node.module, r"^meetrow\.[a-z0-9_]+$", where)
                source = TREES[PACKAGE / (node.module.split(".")[1] + ".py")]
                defined = [part.name for part in source.body if isinstance(part, (ast.FunctionDef, ast.ClassDef))]
                defined += [part.targets[0].id for part in source.body if isinstance(part, ast.Assign)]
                self.assertIn(alias.name, defined, where)

    def test_no_two_files_import_from_each_other(self):
        above = {path.stem: {node.module.split(".")[1] for node in tree.body
                             if isinstance(node, ast.ImportFrom) and node.module.startswith("meetrow.")}
                 for path, tree in TREES.items()}
        while above:
            free = [name for name, needs in above.items() if not needs & set(above)]
            self.assertTrue(free, sorted(above))
            above = {name: needs for name, needs in above.items() if name not in free}

    def test_names_of_imports_and_classes_are_not_bound_again(self):
        for path, tree in TREES.items():
            taken = [alias.name for node in tree.body if isinstance(node, ast.ImportFrom) for alias in node.names]
            taken += [node.name for node in tree.body if isinstance(node, ast.ClassDef)]
            bound = list(bound_names(tree))
            methods = [part.name for node in tree.body if isinstance(node, ast.ClassDef)
                       for part in node.body if isinstance(part, ast.FunctionDef)]
            for name in taken:
                self.assertEqual(bound.count(name) - methods.count(name), 1, (path.name, name))


class Code(unittest.TestCase):
    def test_module_level(self):
        for path, tree in TREES.items():
            names = []
            for at, node in enumerate(tree.body):
                if isinstance(node, ast.Expr):
                    self.assertEqual(at, 0, path)
                    self.assertIsInstance(node.value, ast.Constant, path)
                elif isinstance(node, ast.Assign):
                    self.assertEqual(len(node.targets), 1, path)
                    self.assertFalse([part for part in ast.walk(node.value) if isinstance(part, ast.Call)], path)
                    names.append(node.targets[0].id)
                else:
                    self.assertIsInstance(node, (ast.ImportFrom, ast.FunctionDef, ast.ClassDef), path)
            self.assertEqual(len(names), len(set(names)), path)

    def test_statements_and_expressions(self):
        for where, node in nodes(ast.stmt):
            self.assertIsInstance(node, STATEMENTS, where)
        for where, node in nodes(*BARRED_EXPRESSIONS):
            self.fail(f"{where} {node}")
        for where, node in nodes(ast.FunctionDef, ast.ClassDef):
            self.assertEqual(node.decorator_list, [], where)
        for where, node in nodes(ast.ClassDef):
            for part in node.body:
                self.assertIsInstance(part, (ast.FunctionDef, ast.Expr), where)

    def test_generator_expressions_and_sets_stand_where_they_may(self):
        fit = {ast.GeneratorExp: ("list", "tuple", "dict"), ast.SetComp: ("sorted", "len")}
        for kind, callers in fit.items():
            standing = [node.args[0] for _, node in nodes(ast.Call)
                        if is_call_of(node, *callers) and len(node.args) == 1 and not node.keywords]
            for where, node in nodes(kind):
                self.assertIn(node, standing, where)

    def test_names(self):
        every = set(dir(builtins))
        for path, tree in TREES.items():
            methods = own_methods()
            for name in bound_names(tree):
                with self.subTest(file=path.name, name=name):
                    self.assertRegex(name, r"^(_?[A-Za-z][A-Za-z0-9_]*|_|__[a-z]+__)$")
                    self.assertNotIn(name, BARRED_NAMES)
                    if name not in methods:
                        self.assertNotIn(name, every)
                    if name.startswith("__"):
                        self.assertIn(name, DOUBLE)
        for where, node in nodes(ast.Name):
            if isinstance(node.ctx, ast.Load) and node.id in every:
                self.assertIn(node.id, BUILTINS, where)

    def test_methods_that_are_called(self):
        may = METHODS | own_methods()
        for where, node in nodes(ast.Call):
            if isinstance(node.func, ast.Attribute):
                if not node.func.attr.startswith("__"):
                    self.assertIn(node.func.attr, may, where)
            else:
                self.assertIsInstance(node.func, ast.Name, where)

    def test_is_stands_beside_none_and_truths(self):
        for where, node in nodes(ast.Compare):
            if any(isinstance(sign, (ast.Is, ast.IsNot)) for sign in node.ops):
                ends = [node.left] + node.comparators
                self.assertTrue([part for part in ends if isinstance(part, ast.Constant)], where)

    def test_exponents_are_literals(self):
        for where, node in nodes(ast.BinOp, ast.AugAssign):
            if isinstance(node.op, ast.Pow):
                exponent = node.right if isinstance(node, ast.BinOp) else node.value
                self.assertIsInstance(exponent, ast.Constant, where)

    def test_stars_in_calls_stand_ahead_of_names(self):
        for where, node in nodes(ast.Call):
            for part in node.args:
                if isinstance(part, ast.Starred):
                    self.assertIsInstance(part.value, (ast.Name, ast.Attribute, ast.List, ast.Tuple), where)

    def test_what_is_left_over_is_of_what_surely_is_a_number(self):
        for where, node in nodes(ast.BinOp):
            if isinstance(node.op, ast.Mod):
                self.assertTrue(is_call_of(node.left, "int", "len", "sum", "abs", "ord"), where)

    def test_no_method_is_an_attribute_of_its_class_and_all_attributes_are_free(self):
        barred = {name for kind in (str, int, list, dict, set, bytes) for name in dir(kind)}
        for where, node in nodes(ast.ClassDef):
            methods = {part.name for part in node.body if isinstance(part, ast.FunctionDef)}
            stored = {part.attr for part in ast.walk(node)
                      if isinstance(part, ast.Attribute) and isinstance(part.ctx, ast.Store)}
            self.assertFalse(methods & stored, where)
            self.assertFalse((methods | stored) & (barred - DOUBLE - METHODS), where)

    def test_no_loop_changes_what_it_goes_over(self):
        changing = {"append", "extend", "insert", "pop", "remove", "clear", "update", "setdefault", "reverse", "add"}
        for where, node in nodes(ast.For):
            over = {ast.unparse(part) for part in ast.walk(node.iter) if isinstance(part, (ast.Name, ast.Attribute))}
            for part in [one for row in node.body for one in ast.walk(row)]:
                if isinstance(part, ast.Call) and isinstance(part.func, ast.Attribute) and part.func.attr in changing:
                    self.assertNotIn(ast.unparse(part.func.value), over, where)
                if isinstance(part, ast.Subscript) and isinstance(part.ctx, (ast.Store, ast.Del)):
                    self.assertNotIn(ast.unparse(part.value), over, where)

    def test_what_is_iterated_at_once_stands_where_it_may(self):
        takers = ("list", "tuple", "dict", "sorted", "sum", "any", "all", "enumerate", "zip", "bytes", "min", "max",
                  "combinations", "permutations")
        for path, tree in TREES.items():
            may = [node.iter for node in ast.walk(tree) if isinstance(node, (ast.For, ast.comprehension))]
            may += [node.args[0] for node in ast.walk(tree) if is_call_of(node, *takers) and node.args]
            may += [part for node in ast.walk(tree) if is_call_of(node, "zip") for part in node.args]
            # A range may also be kept in a variable, or measured, or turned round.
            ranges = [node.value for node in ast.walk(tree) if isinstance(node, ast.Assign)]
            ranges += [node.args[0] for node in ast.walk(tree) if is_call_of(node, "len", "reversed") and node.args]
            for node in ast.walk(tree):
                if is_call_of(node, "range", "zip", "enumerate", "reversed"):
                    self.assertIn(node, may + (ranges if node.func.id == "range" else []), (path, node.lineno))
                if isinstance(node, ast.Call) and isinstance(node.func, ast.Attribute):
                    if node.func.attr in ("items", "keys", "values"):
                        self.assertIn(node, may, (path, node.lineno))
