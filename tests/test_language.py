"""The form of the package's code: the rules of LANGUAGE.md that a walk over the code can see."""

import ast
import builtins
import pathlib
import re
import unittest

PACKAGE = pathlib.Path(__file__).resolve().parent.parent / "dots"

STATEMENTS = (
    ast.Assign, ast.AugAssign, ast.If, ast.While, ast.For, ast.Return, ast.Break, ast.Continue, ast.Pass,
    ast.Raise, ast.Try, ast.Expr, ast.FunctionDef, ast.ClassDef, ast.ImportFrom,
)
EXPRESSIONS = (
    ast.Constant, ast.Name, ast.List, ast.Tuple, ast.Dict, ast.BinOp, ast.UnaryOp, ast.BoolOp, ast.Compare,
    ast.IfExp, ast.Call, ast.Attribute, ast.Subscript, ast.Slice, ast.ListComp, ast.JoinedStr,
    ast.FormattedValue, ast.Lambda,
)
PLAIN_VALUES = (ast.Constant, ast.List, ast.Tuple, ast.Dict, ast.UnaryOp, ast.USub, ast.Load, ast.Name)
BUILT_IN = """len range enumerate zip min max sum abs sorted reversed int str bool list tuple dict set frozenset
    isinstance ord repr any all divmod Exception ValueError TypeError KeyError IndexError LookupError
    ZeroDivisionError ArithmeticError OverflowError RuntimeError NotImplementedError AttributeError
    StopIteration""".split()
METHODS = """append clear copy count endswith extend find get index insert isalnum isalpha isdigit islower
    isspace isupper items join keys ljust lower lstrip partition pop remove replace reverse rfind rjust
    rpartition rsplit rstrip setdefault split splitlines startswith strip update upper values zfill
    bit_length""".split()
WORDS_OUT = re.compile(
    r"\b(type|typing|typing_extensions|enum|Enum|IntEnum|StrEnum|Flag|IntFlag|Generic|Protocol|ABC|ABCMeta"
    r"|namedtuple|NamedTuple|TypedDict|TYPE_CHECKING|abstractmethod)\b|dataclass|overload|contextmanager")
NAMES_OUT = """register mro elements open input version_info with_traceback add_note attrgetter breakpoint
    builtins compile copyright credits delattr dir eval exec exit gc getattr globals hasattr help id importlib
    license locals methodcaller os quit setattr super vars sys chr print format format_map""".split()
WALKED_AT_ONCE = ["zip", "enumerate", "reversed", "range", "items", "keys", "values"]
WALKERS = ["list", "tuple", "dict", "sorted", "sum", "any", "all", "enumerate", "zip", "min", "max", "join"]
KEYWORDS = {"sorted": ["key", "reverse"], "min": ["key", "default"], "max": ["key", "default"], "sum": ["start"],
            "enumerate": ["start"], "zip": ["strict"]}
OWN_UNDERSCORED = ["__init__", "__eq__", "__repr__", "__str__", "__len__", "__all__", "__version__"]


def sources():
    """Each file of the package with its text."""
    return [(path, path.read_text(encoding="utf-8")) for path in sorted(PACKAGE.rglob("*.py"))]


def trees():
    """Each file of the package with its parsed code."""
    return [(path, ast.parse(text)) for path, text in sources()]


def bound_names(tree):
    """All names that a file binds: by a def, a class, an import, a parameter, an assignment, a handler."""
    names = []
    for node in ast.walk(tree):
        if isinstance(node, (ast.FunctionDef, ast.ClassDef)):
            names.append(node.name)
        elif isinstance(node, ast.arg):
            names.append(node.arg)
        elif isinstance(node, ast.Name) and isinstance(node.ctx, ast.Store):
            names.append(node.id)
        elif isinstance(node, ast.ImportFrom):
            names.extend(alias.asname or alias.name for alias in node.names)
        elif isinstance(node, ast.ExceptHandler) and node.name:
            names.append(node.name)
    return names


def locals_of(tree):
    """All parameters and locals of a file's functions, with those of its comprehensions and handlers."""
    names = []
    for row in ast.walk(tree):
        if isinstance(row, ast.FunctionDef):
            inner = bound_names(row)
            inner.remove(row.name)
            names.extend(inner)
    return names


def called(node):
    """The name of the function or method that a node calls, or None."""
    if not isinstance(node, ast.Call):
        return None
    return node.func.id if isinstance(node.func, ast.Name) else node.func.attr


def parents(tree):
    """Each node with the one in which it stands."""
    return [(child, node) for node in ast.walk(tree) for child in ast.iter_child_nodes(node)]


class FilesTest(unittest.TestCase):
    def test_the_folder_holds_plain_files_alone(self):
        for path in PACKAGE.iterdir():
            if path.name != "__pycache__":
                self.assertRegex(path.name, r"^(__init__|__main__|[a-z][a-z0-9_]*)\.py$")

    def test_signs_and_size(self):
        for path, text in sources():
            self.assertRegex(text, r"\A[ -~\n]*\Z", path)
            lines = text.split("\n")
            self.assertLessEqual(len(lines), 400, path)
            self.assertLessEqual(max(len(line) for line in lines), 120, path)

    def test_words_that_stand_nowhere(self):
        for path, text in sources():
            self.assertIsNone(WORDS_OUT.search(text), path)


class TopTest(unittest.TestCase):
    def test_what_stands_at_the_top(self):
        for path, tree in trees():
            for node in tree.body[1:]:
                self.assertIsInstance(node, (ast.ImportFrom, ast.FunctionDef, ast.ClassDef, ast.Assign), path)
                if isinstance(node, ast.Assign):
                    for part in ast.walk(node.value):
                        self.assertIsInstance(part, PLAIN_VALUES, (path, node.lineno))
            self.assertIsNotNone(ast.get_docstring(tree), path)

    def test_each_name_is_bound_once(self):
        for path, tree in trees():
            names = [node.name for node in tree.body if isinstance(node, (ast.FunctionDef, ast.ClassDef))]
            names += [node.targets[0].id for node in tree.body if isinstance(node, ast.Assign)]
            names += [alias.name for node in tree.body if isinstance(node, ast.ImportFrom) for alias in node.names]
            self.assertEqual(len(names), len(set(names)), path)

    def test_imports_draw_from_the_file_that_defines_the_name(self):
        files = {f"dots.{path.stem}": tree for path, tree in trees()}
        for path, tree in trees():
            for node in ast.walk(tree):
                if isinstance(node, ast.ImportFrom):
                    self.assertIn(node, tree.body, path)
                    self.assertIn(node.module, files, path)
                    top = bound_names(ast.Module(
                        [row for row in files[node.module].body if not isinstance(row, ast.ImportFrom)], []))
                    for alias in node.names:
                        self.assertIn(alias.name, top, path)


class CodeTest(unittest.TestCase):
    def test_statements_and_expressions(self):
        for path, tree in trees():
            for node in ast.walk(tree):
                where = (path, getattr(node, "lineno", None))
                if isinstance(node, ast.stmt):
                    self.assertIsInstance(node, STATEMENTS, where)
                if isinstance(node, ast.expr):
                    self.assertIsInstance(node, EXPRESSIONS, where)
                self.assertNotIsInstance(node, (ast.Div, ast.MatMult), where)
                if isinstance(node, (ast.For, ast.While)):
                    self.assertEqual(node.orelse, [], where)
                if isinstance(node, ast.Try):
                    self.assertEqual(node.finalbody, [], where)
                if isinstance(node, ast.Assign):
                    self.assertEqual(len(node.targets), 1, where)
                if isinstance(node, ast.ListComp):
                    self.assertEqual(len(node.generators), 1, where)
                    self.assertLessEqual(len(node.generators[0].ifs), 1, where)
                if isinstance(node, ast.Compare):
                    self.assert_is_stands_beside_a_written_value(node, where)

    def assert_is_stands_beside_a_written_value(self, node, where):
        for sign, right in zip(node.ops, node.comparators):
            if isinstance(sign, (ast.Is, ast.IsNot)):
                self.assertTrue(isinstance(right, ast.Constant) and right.value in (None, True, False), where)

    def test_values(self):
        for path, tree in trees():
            for node in ast.walk(tree):
                if isinstance(node, ast.Constant):
                    where = (path, node.lineno)
                    self.assertIn(type(node.value), (int, str, bool, type(None)), where)
                    if isinstance(node.value, str):
                        self.assertNotIn("%", node.value, where)
                if isinstance(node, ast.BinOp) and isinstance(node.op, ast.Pow):
                    self.assertIsInstance(node.right, ast.Constant, (path, node.lineno))

    def test_functions_and_classes(self):
        for path, tree in trees():
            for node in ast.walk(tree):
                where = (path, getattr(node, "lineno", None))
                if isinstance(node, (ast.FunctionDef, ast.ClassDef)):
                    self.assertEqual(node.decorator_list, [], where)
                if isinstance(node, ast.FunctionDef):
                    self.assertLessEqual(node.end_lineno - node.lineno + 1, 40, where)
                    self.assertIsNone(node.args.vararg or node.args.kwarg, where)
                    self.assertEqual(node.args.kwonlyargs + node.args.posonlyargs, [], where)
                if isinstance(node, ast.ClassDef):
                    self.assertIn(node, tree.body, where)
                    self.assertLessEqual(len(node.bases), 1, where)
                    for row in node.body:
                        self.assertTrue(isinstance(row, (ast.FunctionDef, ast.Pass)) or isinstance(
                            getattr(row, "value", None), ast.Constant), where)

    def test_names(self):
        for path, tree in trees():
            bound = bound_names(tree)
            for name in bound:
                if name not in OWN_UNDERSCORED:
                    self.assertRegex(name, r"^[A-Za-z][A-Za-z0-9_]*$", path)
                self.assertNotIn(name, BUILT_IN + NAMES_OUT, path)
            for node in ast.walk(tree):
                if isinstance(node, ast.Name):
                    self.assertIn(node.id, bound + BUILT_IN, (path, node.lineno))

    def test_methods(self):
        own = []
        for path, tree in trees():
            for node in ast.walk(tree):
                if isinstance(node, ast.ClassDef):
                    own.extend(row.name for row in node.body if isinstance(row, ast.FunctionDef))
        for path, tree in trees():
            for node in ast.walk(tree):
                if isinstance(node, ast.Call) and isinstance(node.func, ast.Attribute):
                    self.assertIn(node.func.attr, METHODS + own, (path, node.lineno))

    def test_locals_are_called_like_nothing_else(self):
        for path, tree in trees():
            drawn = [alias.name for node in tree.body if isinstance(node, ast.ImportFrom) for alias in node.names]
            classes = [node.name for node in tree.body if isinstance(node, ast.ClassDef)]
            for name in locals_of(tree):
                self.assertNotIn(name, drawn + classes + dir(builtins), path)

    def test_no_name_is_a_method_and_a_value(self):
        methods = set()
        values = set()
        taken = dir(str) + dir(int) + dir(list) + dir(tuple) + dir(dict) + dir(set) + dir(bytes)
        for path, tree in trees():
            for node in ast.walk(tree):
                if isinstance(node, ast.ClassDef):
                    names = [row.name for row in node.body if isinstance(row, ast.FunctionDef)]
                    self.assertEqual(len(names), len(set(names)), path)
                    methods.update(names)
                if isinstance(node, ast.Attribute) and isinstance(node.ctx, ast.Store):
                    self.assertEqual(getattr(node.value, "id", None), "self", (path, node.lineno))
                    values.add(node.attr)
        self.assertEqual(methods & values, set())
        self.assertEqual((methods | values) & set(taken) - {"__init__"}, set())

    def test_errors_are_made_and_taken_by_name(self):
        own = [node.name for path, tree in trees() if path.stem == "errors" for node in tree.body
               if isinstance(node, ast.ClassDef)]
        for path, tree in trees():
            for node in ast.walk(tree):
                if isinstance(node, ast.Raise):
                    self.assertIn(called(node.exc), own, (path, node.lineno))
                if isinstance(node, ast.ExceptHandler):
                    self.assertIn(getattr(node.type, "id", None), own, (path, node.lineno))

    def test_walked_at_once(self):
        for path, tree in trees():
            for node, parent in parents(tree):
                if called(node) in WALKED_AT_ONCE:
                    where = (path, node.lineno)
                    if called(parent) is not None:
                        self.assertIn(called(parent), WALKERS, where)
                        self.assertIs(parent.args[0], node, where)
                    else:
                        self.assertIsInstance(parent, (ast.For, ast.comprehension), where)
                        self.assertIs(parent.iter, node, where)

    def test_sets(self):
        for path, tree in trees():
            for node, parent in parents(tree):
                if called(node) in ("set", "frozenset"):
                    alone = called(parent) in ("sorted", "len") and parent.keywords == []
                    self.assertTrue(alone or isinstance(parent, (ast.Compare, ast.BinOp)), (path, node.lineno))

    def test_keywords(self):
        for path, tree in trees():
            own = bound_names(tree)
            for node in ast.walk(tree):
                if called(node) is not None and called(node) not in own:
                    for keyword in node.keywords:
                        self.assertIn(keyword.arg, KEYWORDS.get(called(node), []), (path, node.lineno))

    def test_no_two_files_draw_from_one_another(self):
        drawn = {}
        for path, tree in trees():
            drawn[f"dots.{path.stem}"] = {node.module for node in tree.body if isinstance(node, ast.ImportFrom)}
        while drawn:
            free = [name for name, others in drawn.items() if not others & set(drawn)]
            self.assertNotEqual(free, [], drawn)
            for name in free:
                drawn.pop(name)


if __name__ == "__main__":
    unittest.main()
