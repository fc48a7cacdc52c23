"""The package keeps to the part of Python that it is written in (the rules L1 to L28)."""

import ast
import builtins
import pathlib
import re
import unittest

PACKAGE = pathlib.Path(__file__).resolve().parent.parent / "turncarriage"

BUILTINS = """len range enumerate zip min max sum abs sorted reversed int str bool list tuple dict set
frozenset isinstance ord repr any all divmod Exception ValueError TypeError KeyError IndexError
LookupError ZeroDivisionError ArithmeticError OverflowError RuntimeError NotImplementedError
AttributeError StopIteration""".split()
METHODS = """append clear copy count endswith extend find get index insert isalnum isalpha isdigit
islower isspace isupper items join keys ljust lower lstrip partition pop remove replace reverse
rfind rjust rpartition rsplit rstrip setdefault split splitlines startswith strip update upper
values zfill bit_length""".split()
NEVER_NAMES = """register mro elements open input version_info with_traceback add_note attrgetter
breakpoint builtins compile copyright credits delattr dir eval exec exit gc getattr globals hasattr
help id importlib license locals methodcaller os quit setattr super type vars sys format
format_map print chr""".split()
NEVER_WORDS = """type typing typing_extensions enum Enum IntEnum StrEnum Flag IntFlag Generic
Protocol ABC ABCMeta namedtuple NamedTuple TypedDict TYPE_CHECKING abstractmethod""".split()
WALKED_AT_ONCE = {"zip", "enumerate", "reversed", "range"}
VIEWS = {"items", "keys", "values"}
TAKERS = {"list", "tuple", "dict", "sorted", "sum", "any", "all", "enumerate", "zip", "min", "max"}

NODES = (ast.Module, ast.FunctionDef, ast.ClassDef, ast.arguments, ast.arg, ast.Assign,
         ast.AugAssign, ast.If, ast.While, ast.For, ast.Return, ast.Break, ast.Continue, ast.Pass,
         ast.Raise, ast.Try, ast.ExceptHandler, ast.Expr, ast.ImportFrom, ast.alias, ast.Name,
         ast.Attribute, ast.Subscript, ast.Slice, ast.Constant, ast.List, ast.Tuple, ast.Dict,
         ast.BinOp, ast.UnaryOp, ast.BoolOp, ast.Compare, ast.IfExp, ast.Call, ast.ListComp,
         ast.comprehension, ast.JoinedStr, ast.FormattedValue, ast.Load, ast.Store, ast.operator, ast.unaryop, ast.boolop, ast.cmpop)


def sources():
    return sorted(PACKAGE.glob("*.py"))


def trees():
    return [(path, ast.parse(path.read_text())) for path in sources()]


def own_names(tree):
    """The names bound anywhere in a file."""
    found = set()
    for node in ast.walk(tree):
        if isinstance(node, (ast.FunctionDef, ast.ClassDef)):
            found.add(node.name)
        elif isinstance(node, ast.arg):
            found.add(node.arg)
        elif isinstance(node, ast.Name) and isinstance(node.ctx, ast.Store):
            found.add(node.id)
        elif isinstance(node, ast.alias):
            found.add(node.asname or node.name)
        elif isinstance(node, ast.ExceptHandler) and node.name:
            found.add(node.name)
    return found


class Files(unittest.TestCase):
    def test_nothing_but_files_of_the_program(self):
        for path in PACKAGE.iterdir():
            if path.name != "__pycache__":
                self.assertRegex(path.name, r"^(__init__|[a-z][a-z0-9_]*)\.py$")
                self.assertNotIn(path.stem, dir(builtins) + NEVER_WORDS)

    def test_signs_and_sizes(self):
        for path in sources():
            text = path.read_text(encoding="utf-8")
            lines = text.split("\n")
            self.assertRegex(text, r"\A[ -~\n]*\Z", path)
            self.assertLessEqual(len(lines), 399, path)
            self.assertLessEqual(max(map(len, lines)), 120, path)

    def test_functions_are_short(self):
        for path, tree in trees():
            for node in ast.walk(tree):
                if isinstance(node, ast.FunctionDef):
                    self.assertLessEqual(node.end_lineno - node.lineno + 1, 40, node.name)

    def test_words_that_stand_nowhere(self):
        for path in sources():
            text = path.read_text()
            for word in re.findall(r"\w+", text):
                self.assertNotIn(word, NEVER_WORDS, path)
            for part in ("dataclass", "overload", "contextmanager"):
                self.assertNotIn(part, text, path)


class Forms(unittest.TestCase):
    def test_statements_and_expressions(self):
        for path, tree in trees():
            for node in ast.walk(tree):
                told = (path.name, getattr(node, "lineno", 0), type(node).__name__)
                self.assertIsInstance(node, NODES, told)
                self.assertNotIsInstance(node, (ast.Div, ast.MatMult, ast.Pow), told)
                if isinstance(node, (ast.For, ast.While)):
                    self.assertEqual(node.orelse, [], told)
                if isinstance(node, ast.Try):
                    self.assertEqual(node.finalbody, [], told)
                if isinstance(node, ast.Assign):
                    self.assertEqual(len(node.targets), 1, told)
                if isinstance(node, ast.ListComp):
                    self.assertEqual(len(node.generators), 1, told)
                    self.assertLessEqual(len(node.generators[0].ifs), 1, told)
                if isinstance(node, ast.Constant):
                    self.assertIn(type(node.value), (int, str, bool, type(None)), told)
                if isinstance(node, ast.Compare):
                    for sign, right in zip(node.ops, node.comparators):
                        if isinstance(sign, (ast.Is, ast.IsNot)):
                            self.assertIsInstance(right, ast.Constant, told)
                            self.assertIn(right.value, (None, True, False), told)
                if isinstance(node, ast.FormattedValue):
                    self.assertIsInstance(node.value, ast.Name, told)
                    self.assertIn(node.conversion, (-1, ord("r")), told)
                    self.assertIsNone(node.format_spec, told)

    def test_functions_and_classes_are_plain(self):
        for path, tree in trees():
            for node in ast.walk(tree):
                if isinstance(node, ast.FunctionDef):
                    given = node.args
                    self.assertEqual(node.decorator_list, [])
                    self.assertEqual((given.vararg, given.kwarg, given.kwonlyargs, given.defaults,
                                      given.posonlyargs, node.returns), (None, None, [], [], [], None))
                    self.assertTrue(all(arg.annotation is None for arg in given.args))
                if isinstance(node, ast.ClassDef):
                    self.assertEqual((node.decorator_list, node.keywords), ([], []))
                    self.assertLessEqual(len(node.bases), 1)
                    for inner in node.body:
                        self.assertIsInstance(inner, (ast.FunctionDef, ast.Pass))

    def test_the_top_of_a_file(self):
        for path, tree in trees():
            names = []
            for at, node in enumerate(tree.body):
                if at == 0:
                    self.assertIsInstance(ast.get_docstring(tree), str, path)
                elif isinstance(node, ast.Assign):
                    names.append(node.targets[0].id)
                    self.assertNotIsInstance(node.value, (ast.List, ast.ListComp), path)
                elif isinstance(node, (ast.FunctionDef, ast.ClassDef)):
                    names.append(node.name)
                else:
                    self.assertIsInstance(node, ast.ImportFrom, path)
                    names.extend(alias.name for alias in node.names)
            self.assertEqual(len(names), len(set(names)), path)

    def test_what_is_walked_at_once(self):
        for path, tree in trees():
            allowed = set()
            for node in ast.walk(tree):
                if isinstance(node, (ast.For, ast.comprehension)):
                    allowed.add(id(node.iter))
                if isinstance(node, ast.Call) and isinstance(node.func, ast.Name):
                    if node.func.id in TAKERS and node.args:
                        allowed.add(id(node.args[0]))
            for node in ast.walk(tree):
                if isinstance(node, ast.Call) and isinstance(node.func, ast.Name):
                    if node.func.id in WALKED_AT_ONCE:
                        self.assertIn(id(node), allowed, (path.name, node.lineno))
                if isinstance(node, ast.Call) and isinstance(node.func, ast.Attribute):
                    if node.func.attr in VIEWS:
                        self.assertIn(id(node), allowed, (path.name, node.lineno))


class Names(unittest.TestCase):
    def test_names_that_are_bound(self):
        for path, tree in trees():
            for name in own_names(tree):
                self.assertNotIn(name, NEVER_NAMES, path)
                self.assertNotIn(name, dir(builtins), path)
                if name != "__init__":
                    self.assertRegex(name, r"^[A-Za-z][A-Za-z0-9_]*$")

    def test_names_that_are_used(self):
        for path, tree in trees():
            known = own_names(tree)
            for node in ast.walk(tree):
                if isinstance(node, ast.Name) and node.id not in known:
                    self.assertIn(node.id, BUILTINS, (path.name, node.lineno))

    def test_locals_are_not_called_like_imports_or_classes(self):
        for path, tree in trees():
            tops = {alias.name for node in tree.body if isinstance(node, ast.ImportFrom)
                    for alias in node.names}
            tops |= {node.name for node in tree.body if isinstance(node, ast.ClassDef)}
            for node in ast.walk(tree):
                if isinstance(node, ast.arg):
                    self.assertNotIn(node.arg, tops, path)
                if isinstance(node, ast.Name) and isinstance(node.ctx, ast.Store):
                    self.assertNotIn(node.id, tops, path)

    def test_methods_and_values(self):
        methods, values = set(), set()
        for path, tree in trees():
            for node in ast.walk(tree):
                if isinstance(node, ast.ClassDef):
                    methods |= {inner.name for inner in node.body
                                if isinstance(inner, ast.FunctionDef)}
                if isinstance(node, ast.Attribute) and isinstance(node.ctx, ast.Store):
                    values.add(node.attr)
                    self.assertIsInstance(node.value, ast.Name)
        self.assertEqual(methods & values, set())
        natives = {name for kind in (int, str, list, dict, set, bytes) for name in dir(kind)}
        self.assertEqual((methods - {"__init__"}) & natives, set())
        self.assertEqual(values & natives, set())
        for path, tree in trees():
            for node in ast.walk(tree):
                if isinstance(node, ast.Attribute):
                    self.assertIn(node.attr, methods | values | set(METHODS), (path, node.lineno))
                    self.assertNotIn(node.attr, NEVER_NAMES)


class Imports(unittest.TestCase):
    def drawn(self):
        found = {}
        for path, tree in trees():
            found[path.stem] = {}
            for node in ast.walk(tree):
                if isinstance(node, ast.ImportFrom):
                    self.assertEqual(node.level, 0, path)
                    self.assertRegex(node.module, r"^turncarriage\.[a-z]+$")
                    for alias in node.names:
                        self.assertIsNone(alias.asname)
                        self.assertNotEqual(alias.name, "*")
                        found[path.stem][alias.name] = node.module.split(".")[1]
        return found

    def test_from_the_very_file(self):
        tops = {}
        for path, tree in trees():
            tops[path.stem] = {node.name for node in tree.body
                               if isinstance(node, (ast.FunctionDef, ast.ClassDef))}
            tops[path.stem] |= {node.targets[0].id for node in tree.body
                                if isinstance(node, ast.Assign)}
        for stem, names in self.drawn().items():
            for name, source in names.items():
                self.assertIn(name, tops[source], stem)
        self.assertEqual([stem for stem in tops if "answers" in tops[stem]], ["machine"])

    def test_imports_are_used(self):
        for path, tree in trees():
            used = {node.id for node in ast.walk(tree) if isinstance(node, ast.Name)}
            for name in self.drawn()[path.stem]:
                self.assertIn(name, used, path)

    def test_no_two_files_draw_from_one_another(self):
        drawn = {stem: set(names.values()) for stem, names in self.drawn().items()}
        while drawn:
            free = [stem for stem in drawn if not drawn[stem] & set(drawn)]
            self.assertNotEqual(free, [], drawn)
            for stem in free:
                drawn.pop(stem)


if __name__ == "__main__":
    unittest.main()
