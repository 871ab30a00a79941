"""Holds the package's files against the rules of the language that can be seen file by file."""

import ast
import builtins
import pathlib
import re
import unittest

PACKAGE = pathlib.Path(__file__).resolve().parent.parent / "letterall"
FILES = sorted(PACKAGE.glob("*.py"))

NODES = set("""Module FunctionDef ClassDef Lambda arguments arg keyword Return Assign AugAssign If While For Break
Continue Pass Raise Try ExceptHandler Expr Import ImportFrom alias Call Attribute Subscript Slice Name Constant List
Tuple Dict ListComp comprehension IfExp BoolOp And Or BinOp UnaryOp Not USub Invert UAdd Compare JoinedStr
FormattedValue Load Store Add Sub Mult FloorDiv Mod Pow BitAnd BitOr BitXor LShift RShift Eq NotEq Lt LtE Gt GtE Is
IsNot In NotIn""".split())
OWN_NAMES = set("""len range enumerate zip min max sum abs sorted reversed int str bool list tuple dict set frozenset
isinstance ord repr any all divmod Exception ValueError TypeError KeyError IndexError LookupError ZeroDivisionError
ArithmeticError OverflowError RuntimeError NotImplementedError AttributeError StopIteration""".split())
OWN_METHODS = set("""append clear copy count endswith extend find get index insert isalnum isalpha isdigit islower
isspace isupper items join keys ljust lower lstrip partition pop remove replace reverse rfind rjust rpartition rsplit
rstrip setdefault split splitlines startswith strip update upper values zfill bit_length""".split())
DOUBLE = ("__init__", "__eq__", "__repr__", "__str__", "__len__")
OUT_NAMES = set("""register mro elements open input version_info with_traceback add_note format format_map
attrgetter breakpoint builtins compile copyright credits delattr dir eval exec exit gc getattr globals hasattr help id
importlib license locals methodcaller os quit setattr super sys vars""".split())
OUT_WORDS = re.compile(r"\b(" + "|".join("""type typing typing_extensions enum Enum IntEnum StrEnum Flag IntFlag
Generic Protocol ABC ABCMeta namedtuple NamedTuple TypedDict TYPE_CHECKING abstractmethod""".split())
                       + r")\b|dataclass|overload|contextmanager")


def tree_of(path):
    return ast.parse(path.read_text(encoding="utf-8"))


def defs_of(tree):
    return [node for node in ast.walk(tree) if isinstance(node, ast.FunctionDef)]


def bound_names(tree):
    for node in ast.walk(tree):
        if isinstance(node, (ast.FunctionDef, ast.ClassDef)):
            yield node.name
        elif isinstance(node, ast.arg):
            yield node.arg
        elif isinstance(node, ast.Name) and isinstance(node.ctx, ast.Store):
            yield node.id
        elif isinstance(node, ast.ExceptHandler) and node.name:
            yield node.name


def local_names(tree):
    for around in defs_of(tree):
        for inner in around.args.args:
            yield inner.arg
        for statement in around.body:
            for node in ast.walk(statement):
                if isinstance(node, ast.Name) and isinstance(node.ctx, ast.Store):
                    yield node.id


def drawn_from(tree):
    return [node for node in tree.body if isinstance(node, ast.ImportFrom)]


PLAIN_NODES = (ast.Constant, ast.Tuple, ast.List, ast.Dict, ast.Name, ast.UnaryOp, ast.USub, ast.Load)


def names_of_tops(tree):
    for node in tree.body:
        if isinstance(node, ast.Assign):
            yield node.targets[0].id
        elif isinstance(node, (ast.FunctionDef, ast.ClassDef)):
            yield node.name


class Language(unittest.TestCase):
    def for_each_file(self, check):
        for path in FILES:
            with self.subTest(path=path.name):
                check(path, tree_of(path))

    def for_each_node(self, check):
        for path in FILES:
            for node in ast.walk(tree_of(path)):
                with self.subTest(path=path.name, line=getattr(node, "lineno", 0)):
                    check(node)

    def test_files(self):
        self.assertIn(PACKAGE / "__init__.py", FILES)
        for path in PACKAGE.iterdir():
            if path.name not in ("__pycache__", "__init__.py"):
                self.assertRegex(path.name, r"\A[a-z][a-z0-9_]*\.py\Z")
                self.assertFalse(hasattr(builtins, path.stem))

    def test_signs_and_sizes(self):
        def check(path, tree):
            text = path.read_bytes().decode("ascii")
            self.assertRegex(text, r"\A[ -~\n]*\Z")
            self.assertIsNone(OUT_WORDS.search(text))
            self.assertLessEqual(len(text.splitlines()), 400)
            self.assertLessEqual(max(len(line) for line in text.splitlines()), 120)
            for each in defs_of(tree):
                self.assertLessEqual(each.end_lineno - each.lineno + 1, 40, each.name)
        self.for_each_file(check)

    def test_statements(self):
        def check(node):
            self.assertIn(type(node).__name__, NODES)
            if isinstance(node, (ast.For, ast.While)):
                self.assertEqual(node.orelse, [])
            if isinstance(node, ast.Assign):
                self.assertEqual(len(node.targets), 1)
                self.assertNotIsInstance(node.targets[0], (ast.Tuple, ast.List))
            if isinstance(node, (ast.FunctionDef, ast.ClassDef)):
                self.assertEqual(node.decorator_list, [])
            if isinstance(node, ast.arguments):
                self.assertEqual((node.vararg, node.kwarg, node.kwonlyargs, node.posonlyargs), (None, None, [], []))
        self.for_each_node(check)

    def test_expressions(self):
        def check(node):
            if isinstance(node, ast.ListComp):
                self.assertEqual(len(node.generators), 1)
                self.assertLessEqual(len(node.generators[0].ifs), 1)
            if isinstance(node, ast.Constant):
                self.assertIn(type(node.value), (int, str, bool, type(None)))
                self.assertNotIn("%", str(node.value))
            if isinstance(node, ast.BinOp) and isinstance(node.op, ast.Pow):
                self.assertIsInstance(node.right, ast.Constant)
            if isinstance(node, ast.Compare) and isinstance(node.ops[0], (ast.Is, ast.IsNot)):
                self.assertIn(ast.unparse(node.comparators[0]), ("None", "True", "False"))
            if isinstance(node, ast.FormattedValue):
                self.assertIsInstance(node.value, ast.Name)
                self.assertIn(node.conversion, (-1, ord("r")))
                self.assertIsNone(node.format_spec)
        self.for_each_node(check)

    def test_top_of_a_file(self):
        def check(path, tree):
            self.assertIsNotNone(ast.get_docstring(tree))
            for node in tree.body[1:]:
                self.assertIsInstance(node, (ast.ImportFrom, ast.FunctionDef, ast.ClassDef, ast.Assign))
                if isinstance(node, ast.Assign):
                    self.assertIsInstance(node.targets[0], ast.Name)
                    for inner in ast.walk(node.value):
                        self.assertIsInstance(inner, PLAIN_NODES)
                        self.assertFalse(inner is not node.value and isinstance(inner, (ast.List, ast.Dict)))
            tops = list(names_of_tops(tree)) + [each.name for node in drawn_from(tree) for each in node.names]
            self.assertEqual(len(tops), len(set(tops)))
        self.for_each_file(check)

    def test_classes(self):
        def check(path, tree):
            for node in ast.walk(tree):
                if isinstance(node, ast.ClassDef):
                    self.assertIn(node, tree.body)
                    self.assertLessEqual(len(node.bases), 1)
                    for inner in node.body:
                        docstring = isinstance(inner, ast.Expr) and isinstance(inner.value, ast.Constant)
                        self.assertTrue(docstring or isinstance(inner, ast.FunctionDef))
        self.for_each_file(check)

    def test_bound_names(self):
        def check(path, tree):
            for name in bound_names(tree):
                if name not in DOUBLE:
                    self.assertRegex(name, r"\A[A-Za-z][A-Za-z0-9_]*\Z")
                    self.assertNotIn(name, OUT_NAMES)
                    self.assertNotIn(name, dir(builtins))
            tops = {each.name for node in drawn_from(tree) for each in node.names}
            tops |= {node.name for node in tree.body if isinstance(node, ast.ClassDef)}
            self.assertEqual(set(local_names(tree)) & tops, set())
        self.for_each_file(check)

    def test_used_names(self):
        methods = {each.name for path in FILES for top in tree_of(path).body if isinstance(top, ast.ClassDef)
                   for each in defs_of(top)}
        values = {node.attr for path in FILES for node in ast.walk(tree_of(path))
                  if isinstance(node, ast.Attribute) and isinstance(node.ctx, ast.Store)}
        self.assertEqual(methods & values, set())

        def check(node):
            if isinstance(node, ast.Name) and node.id in dir(builtins):
                self.assertIn(node.id, OWN_NAMES)
            if isinstance(node, ast.Attribute):
                self.assertNotIn(node.attr, OUT_NAMES)
                self.assertIn(node.attr, OWN_METHODS | methods | values | set(DOUBLE))
        self.for_each_node(check)

    def test_imports(self):
        draws = {}

        def check(path, tree):
            self.assertFalse([node for node in ast.walk(tree) if isinstance(node, ast.Import)])
            draws[path.stem] = []
            for node in drawn_from(tree):
                self.assertEqual(node.level, 0)
                self.assertRegex(node.module, r"\Aletterall\.[a-z]+\Z")
                source = node.module.partition(".")[2]
                draws[path.stem].append(source)
                for each in node.names:
                    self.assertIn(each.name, list(names_of_tops(tree_of(PACKAGE / (source + ".py")))))
                    self.assertIsNone(each.asname)
        self.for_each_file(check)
        self.assertEqual(draws["__init__"], [])
        while draws:
            free = [name for name in draws if not set(draws[name]) & set(draws)]
            self.assertTrue(free, f"files draw from one another: {sorted(draws)}")
            for name in free:
                del draws[name]


WALKS = ("zip", "enumerate", "reversed", "range")
WALKED_BY = ("list", "tuple", "dict", "sorted", "sum", "any", "all", "enumerate", "zip")
KEYWORDS = {"sorted": ("key", "reverse"), "min": ("key", "default"), "max": ("key", "default"), "sum": ("start",),
            "enumerate": ("start",), "zip": ("strict",)}
READERS = ("len", "sorted", "list", "dict", "tuple", "enumerate", "zip", "min", "max", "sum", "any", "all")
READING_METHODS = ("get", "index", "count", "items", "keys", "values", "copy")


def with_parents(tree):
    """Each node of a tree with the one around it."""
    for around in ast.walk(tree):
        for node in ast.iter_child_nodes(around):
            yield node, around


def name_called(node):
    """The name by which a node calls, None where it is no call of a plain name."""
    return node.func.id if isinstance(node, ast.Call) and isinstance(node.func, ast.Name) else None


def is_walked_at_once(node, around):
    if isinstance(around, (ast.For, ast.comprehension)):
        return around.iter is node
    if isinstance(around, ast.Call) and node in around.args:
        if name_called(around) in ("min", "max"):
            return len(around.args) == 1
        if name_called(around) in ("zip",):
            return True
        written = isinstance(around.func, ast.Attribute) and isinstance(around.func.value, ast.Constant)
        return around.args[0] is node and (name_called(around) in WALKED_BY or (written and around.func.attr == "join"))
    return False


class NarrowerRules(unittest.TestCase):
    def for_each(self, check):
        for path in FILES:
            for node, around in with_parents(tree_of(path)):
                with self.subTest(path=path.name, line=getattr(node, "lineno", 0)):
                    check(node, around)

    def test_walked_at_once(self):
        def check(node, around):
            method = node.func.attr if isinstance(node, ast.Call) and isinstance(node.func, ast.Attribute) else None
            if name_called(node) in WALKS or method in ("items", "keys", "values"):
                self.assertTrue(is_walked_at_once(node, around))
        self.for_each(check)

    def test_what_a_loop_walks_is_not_changed_in_it(self):
        changing = ("append", "clear", "extend", "insert", "pop", "remove", "reverse", "setdefault", "update")

        def check(node, around):
            if not isinstance(node, ast.For):
                return
            walked = {ast.unparse(each) for each in ast.walk(node.iter) if isinstance(each, (ast.Name, ast.Attribute))}
            for inner in [inner for statement in node.body for inner in ast.walk(statement)]:
                if isinstance(inner, ast.Call) and isinstance(inner.func, ast.Attribute) and inner.func.attr in changing:
                    self.assertNotIn(ast.unparse(inner.func.value), walked)
                if isinstance(inner, ast.Subscript) and isinstance(inner.ctx, ast.Store):
                    self.assertNotIn(ast.unparse(inner.value), walked)
        self.for_each(check)

    def test_sets_are_asked_on_the_spot(self):
        def check(node, around):
            if name_called(node) in ("set", "frozenset"):
                self.assertTrue(isinstance(around, (ast.Compare, ast.BinOp)) or name_called(around) in ("sorted", "len"))
        self.for_each(check)

    def test_own_functions_are_called(self):
        def check(node, around):
            if isinstance(node, ast.Name) and node.id in OWN_NAMES and node.id[0].islower():
                kind = name_called(around) == "isinstance" or isinstance(around, ast.Tuple)
                self.assertTrue(kind or isinstance(around, ast.keyword) or getattr(around, "func", None) is node)
            if isinstance(node, ast.Attribute) and node.attr in OWN_METHODS and node.attr not in ("index", "count"):
                self.assertTrue(getattr(around, "func", None) is node)
        self.for_each(check)

    def test_keywords(self):
        def check(node, around):
            if isinstance(node, ast.keyword):
                self.assertIn(node.arg, KEYWORDS.get(name_called(around), ()))
        self.for_each(check)

    def test_lambdas_alike_on_one_line(self):
        for path in FILES:
            seen = set()
            for node in ast.walk(tree_of(path)):
                if isinstance(node, ast.Lambda):
                    mark = (node.lineno, ast.unparse(node.args))
                    self.assertNotIn(mark, seen, path.name)
                    seen.add(mark)

    def test_errors(self):
        def check(node, around):
            if isinstance(node, ast.Try):
                self.assertEqual(node.finalbody, [])
            if isinstance(node, ast.ExceptHandler):
                self.assertNotIn(ast.unparse(node.type) if node.type else None, (None, "Exception", "TypeError"))
            if isinstance(node, ast.Raise):
                self.assertIsInstance(node.exc, ast.Call)
        self.for_each(check)

    def test_lists_and_dicts_of_the_top_are_only_read(self):
        for path in FILES:
            tree = tree_of(path)
            kept = {node.targets[0].id for node in tree.body
                    if isinstance(node, ast.Assign) and isinstance(node.value, (ast.List, ast.Dict))}
            for node, around in with_parents(tree):
                if isinstance(node, ast.Name) and node.id in kept and isinstance(node.ctx, ast.Load):
                    with self.subTest(path=path.name, line=node.lineno):
                        self.assertTrue(
                            (isinstance(around, ast.Subscript) and isinstance(around.ctx, ast.Load))
                            or isinstance(around, (ast.Compare, ast.For, ast.comprehension))
                            or name_called(around) in READERS
                            or (isinstance(around, ast.Attribute) and around.attr in READING_METHODS))


if __name__ == "__main__":
    unittest.main()
