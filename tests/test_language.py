"""The form of the code: the rules of the language part that can be seen file by file."""

import ast
import builtins
import os
import re
import unittest

PACKAGE = os.path.join(os.path.dirname(os.path.dirname(os.path.abspath(__file__))), "worldtold")

BUILTINS = """len range enumerate zip min max sum abs sorted reversed int str bool list tuple dict set frozenset isinstance
ord repr any all divmod Exception ValueError TypeError KeyError IndexError LookupError ZeroDivisionError
ArithmeticError OverflowError RuntimeError NotImplementedError AttributeError StopIteration""".split()

METHODS = """append clear copy count endswith extend find get index insert isalnum isalpha isdigit islower isspace isupper
items join keys ljust lower lstrip partition pop remove replace reverse rfind rjust rpartition rsplit rstrip setdefault
split splitlines startswith strip update upper values zfill bit_length""".split()

STATEMENTS = (ast.Assign, ast.AugAssign, ast.If, ast.While, ast.For, ast.Return, ast.Break, ast.Continue, ast.Pass,
              ast.Raise, ast.Try, ast.Expr, ast.FunctionDef, ast.ClassDef, ast.ImportFrom)

EXPRESSIONS = (ast.Constant, ast.List, ast.Tuple, ast.Dict, ast.BinOp, ast.UnaryOp, ast.Compare, ast.BoolOp, ast.IfExp,
               ast.Call, ast.Attribute, ast.Subscript, ast.Slice, ast.ListComp, ast.JoinedStr, ast.FormattedValue,
               ast.Lambda, ast.Name)

OPERATORS = (ast.Add, ast.Sub, ast.Mult, ast.FloorDiv, ast.Mod, ast.Pow, ast.BitAnd, ast.BitOr, ast.BitXor, ast.LShift,
             ast.RShift)

WALKED = ("zip", "enumerate", "reversed", "range")

FORBIDDEN_WORDS = """type typing typing_extensions enum Enum IntEnum StrEnum Flag IntFlag Generic Protocol ABC ABCMeta
namedtuple NamedTuple TypedDict TYPE_CHECKING abstractmethod""".split()

FORBIDDEN_NAMES = """register mro elements open input version_info with_traceback add_note attrgetter breakpoint builtins
compile copyright credits delattr dir eval exec exit gc getattr globals hasattr help id importlib license locals
methodcaller os quit setattr super vars sys format format_map""".split()

KEYWORDS = {"sorted": ["key", "reverse"], "min": ["key", "default"], "max": ["key", "default"], "sum": ["start"],
            "enumerate": ["start"], "zip": ["strict"]}

# How a list or dict of a file's top may be read.
READING_CALLS = ("len", "list", "tuple", "dict", "sorted", "enumerate", "zip", "min", "max", "sum", "any", "all")
READING_METHODS = ("get", "items", "keys", "values", "index", "count", "copy")

CHANGING_METHODS = ("append", "clear", "extend", "insert", "pop", "remove", "reverse", "setdefault", "update")
METHOD_NAMES_LET = METHODS + ["add", "discard"]
VALUE_NAMES_LET = "count index title find get join lower upper split strip copy add".split()


def files():
    return sorted([name for name in os.listdir(PACKAGE) if name != "__pycache__"])


def source(name):
    with open(os.path.join(PACKAGE, name), encoding="utf-8", newline="") as file:
        return file.read()


def trees():
    return [(name, ast.parse(source(name))) for name in files()]


def nodes(kind):
    return [(name, node) for name, tree in trees() for node in ast.walk(tree) if isinstance(node, kind)]


def bound_names(tree):
    """Every name that a file binds, with the node that binds it."""
    found = []
    for node in ast.walk(tree):
        if isinstance(node, ast.Name) and isinstance(node.ctx, ast.Store):
            found.append((node.id, node))
        if isinstance(node, ast.arg):
            found.append((node.arg, node))
        if isinstance(node, (ast.FunctionDef, ast.ClassDef)):
            found.append((node.name, node))
    return found


def is_plain(value):
    if isinstance(value, ast.UnaryOp):
        return isinstance(value.op, ast.USub) and is_plain(value.operand)
    if isinstance(value, (ast.Tuple, ast.List)):
        return all([is_plain(part) for part in value.elts])
    if isinstance(value, ast.Dict):
        return all([is_plain(part) for part in value.keys + value.values])
    return isinstance(value, ast.Constant)


class Files(unittest.TestCase):
    def test_names_and_signs(self):
        for name in files():
            self.assertRegex(name, r"^([a-z][a-z0-9_]*|__init__)\.py$")
            self.assertTrue(name == "__init__.py" or not hasattr(builtins, name[:-3]), name)
            self.assertRegex(source(name), r"\A[ -~\n]*\Z", name)
        self.assertIn("__init__.py", files())

    def test_sizes(self):
        for name in files():
            rows = source(name).split("\n")
            self.assertLessEqual(len(rows), 400, name)
            self.assertLessEqual(max([len(line) for line in rows]), 120, name)
        for name, node in nodes(ast.FunctionDef):
            self.assertLessEqual(node.end_lineno - node.lineno + 1, 40, (name, node.name))

    def test_words_that_stand_nowhere(self):
        for name in files():
            words = re.findall(r"\w+", source(name))
            for word in FORBIDDEN_WORDS:
                self.assertNotIn(word, words, name)
            for word in ("dataclass", "overload", "contextmanager"):
                self.assertNotIn(word, source(name), name)


class Top(unittest.TestCase):
    def test_only_what_may_stand_at_the_top(self):
        for name, tree in trees():
            self.assertIsNotNone(ast.get_docstring(tree), name)
            for node in tree.body[1:]:
                self.assertIsInstance(node, (ast.ImportFrom, ast.FunctionDef, ast.ClassDef, ast.Assign), name)
                if isinstance(node, ast.Assign):
                    self.assertTrue(is_plain(node.value), (name, node.lineno))

    def test_imports(self):
        drawn = {}
        for name, node in nodes((ast.Import, ast.ImportFrom)):
            self.assertIsInstance(node, ast.ImportFrom)
            self.assertEqual(node.level, 0)
            self.assertRegex(node.module, r"^worldtold\.[a-z]+$")
            defined = [bound for bound, place in bound_names(ast.parse(source(node.module[10:] + ".py")))]
            for alias in node.names:
                self.assertIn(alias.name, defined)
                self.assertIsNone(alias.asname)
            drawn.setdefault(name, []).append(node.module[10:] + ".py")
        settled = []
        while len(settled) < len(files()):
            ready = [name for name in files() if name not in settled and set(drawn.get(name, [])) <= set(settled)]
            self.assertNotEqual(ready, [], "files draw from one another")
            settled += ready

    def test_every_import_is_used(self):
        for name, tree in trees():
            used = [node.id for node in ast.walk(tree) if isinstance(node, ast.Name)]
            for node in ast.walk(tree):
                if isinstance(node, ast.ImportFrom):
                    for alias in node.names:
                        self.assertIn(alias.name, used, name)

    def test_names_of_the_top_are_bound_once_and_lists_hold_no_lists(self):
        for name, tree in trees():
            tops = []
            for node in tree.body:
                if isinstance(node, ast.Assign):
                    tops.extend([target.id for target in node.targets])
                    if isinstance(node.value, (ast.Dict, ast.List)):
                        inner = [part for part in ast.walk(node.value) if isinstance(part, (ast.Dict, ast.List))]
                        self.assertEqual(inner, [node.value], name)
                if isinstance(node, (ast.FunctionDef, ast.ClassDef)):
                    tops.append(node.name)
                if isinstance(node, ast.ImportFrom):
                    tops.extend([alias.name for alias in node.names])
            self.assertEqual(len(tops), len(set(tops)), name)


class Code(unittest.TestCase):
    def test_statements_and_expressions(self):
        for name, node in nodes(ast.stmt):
            self.assertIsInstance(node, STATEMENTS, (name, node.lineno))
            if isinstance(node, (ast.For, ast.While)):
                self.assertEqual(node.orelse, [])
            if isinstance(node, ast.Assign):
                self.assertEqual(len(node.targets), 1)
        for name, node in nodes(ast.expr):
            self.assertIsInstance(node, EXPRESSIONS, (name, node.lineno))
            if isinstance(node, ast.Constant):
                self.assertIsInstance(node.value, (int, str, bool, type(None)))
                if isinstance(node.value, str):
                    self.assertNotIn("%", node.value)
            if isinstance(node, ast.ListComp):
                self.assertEqual(len(node.generators), 1)
                self.assertLessEqual(len(node.generators[0].ifs), 1)
            if isinstance(node, ast.FormattedValue):
                self.assertIsInstance(node.value, ast.Name)
        for name, node in nodes(ast.operator):
            self.assertIsInstance(node, OPERATORS, name)
        for name, node in nodes(ast.Compare):
            for place, operator in enumerate(node.ops):
                if isinstance(operator, (ast.Is, ast.IsNot)):
                    self.assertIsInstance(node.comparators[place], ast.Constant)

    def test_functions_and_classes(self):
        for name, node in nodes((ast.FunctionDef, ast.Lambda)):
            self.assertIsNone(node.args.vararg)
            self.assertIsNone(node.args.kwarg)
            self.assertEqual(node.args.kwonlyargs + node.args.posonlyargs, [])
        for name, node in nodes((ast.FunctionDef, ast.ClassDef)):
            self.assertEqual(node.decorator_list, [])
        methods, values = set(), set()
        for name, node in nodes(ast.ClassDef):
            self.assertLessEqual(len(node.bases), 1)
            for part in node.body:
                if isinstance(part, ast.FunctionDef):
                    methods.add(part.name)
                else:
                    self.assertEqual(part.value.value, ast.get_docstring(node, clean=False))
        for name, node in nodes(ast.Attribute):
            if isinstance(node.ctx, ast.Store):
                values.add(node.attr)
        self.assertEqual(methods & values, set())

    def test_names(self):
        for name, tree in trees():
            imported = [alias.name for node in tree.body if isinstance(node, ast.ImportFrom) for alias in node.names]
            classes = [node.name for node in tree.body if isinstance(node, ast.ClassDef)]
            for bound, node in bound_names(tree):
                if bound == "__init__":
                    continue
                self.assertRegex(bound, r"^[A-Za-z][A-Za-z0-9_]*$", name)
                self.assertFalse(hasattr(builtins, bound), (name, bound))
                self.assertNotIn(bound, imported, name)
                self.assertNotIn(bound, FORBIDDEN_NAMES, name)
                if not isinstance(node, ast.ClassDef):
                    self.assertNotIn(bound, classes, name)

    def test_names_of_pythons_own(self):
        for name, node in nodes(ast.Name):
            if hasattr(builtins, node.id):
                self.assertIn(node.id, BUILTINS, (name, node.lineno))
            self.assertNotIn(node.id, FORBIDDEN_NAMES, (name, node.lineno))

    def test_methods_of_pythons_own(self):
        own = [node.name for name, node in nodes(ast.FunctionDef)]
        for name, node in nodes(ast.Attribute):
            self.assertNotIn(node.attr, FORBIDDEN_NAMES, (name, node.lineno))
        for name, node in nodes(ast.Call):
            if isinstance(node.func, ast.Attribute):
                self.assertIn(node.func.attr, METHODS + own, (name, node.lineno))

    def test_walked_at_once_and_sets(self):
        for name, tree in trees():
            walked = []
            for node in ast.walk(tree):
                if isinstance(node, (ast.For, ast.comprehension)):
                    walked.append(node.iter)
                if isinstance(node, ast.Call) and isinstance(node.func, ast.Name) and node.args:
                    if node.func.id in ("list", "tuple", "dict", "sorted", "len"):
                        walked.append(node.args[0])
            for node in ast.walk(tree):
                if isinstance(node, ast.Call) and isinstance(node.func, ast.Name):
                    if node.func.id in WALKED + ("set",):
                        self.assertIn(node, walked, (name, node.lineno))

    def test_own_methods_and_values(self):
        python_names = [name for kind in (str, int, list, tuple, dict, set, frozenset, bytes) for name in dir(kind)]
        for name, node in nodes(ast.ClassDef):
            methods = [part.name for part in node.body if isinstance(part, ast.FunctionDef)]
            self.assertEqual(len(methods), len(set(methods)), (name, node.name))
            for method in methods:
                if method != "__init__" and method not in METHOD_NAMES_LET:
                    self.assertNotIn(method, python_names, (name, node.name))
        for name, node in nodes(ast.Attribute):
            if isinstance(node.ctx, ast.Store) and node.attr not in VALUE_NAMES_LET:
                self.assertNotIn(node.attr, python_names + ["args"], (name, node.lineno))

    def test_no_annotations(self):
        for name, node in nodes(ast.FunctionDef):
            self.assertIsNone(node.returns, (name, node.name))
        for name, node in nodes(ast.arg):
            self.assertIsNone(node.annotation, (name, node.arg))

    def test_keywords(self):
        for name, node in nodes(ast.Call):
            if isinstance(node.func, ast.Name) and hasattr(builtins, node.func.id):
                for keyword in node.keywords:
                    self.assertIn(keyword.arg, KEYWORDS.get(node.func.id, []), (name, node.lineno))
            if isinstance(node.func, ast.Attribute) and node.func.attr in METHODS:
                self.assertEqual(node.keywords, [], (name, node.lineno))

    def test_pythons_own_names_are_called_or_asked_about(self):
        for name, tree in trees():
            called = [node.func for node in ast.walk(tree) if isinstance(node, ast.Call)]
            bases = [base for node in ast.walk(tree) if isinstance(node, ast.ClassDef) for base in node.bases]
            for node in ast.walk(tree):
                if isinstance(node, ast.Name) and hasattr(builtins, node.id):
                    self.assertIn(node, called + bases, (name, node.lineno))

    def test_methods_are_called_where_they_stand(self):
        methods = [part.name for name, node in nodes(ast.ClassDef) for part in node.body
                   if isinstance(part, ast.FunctionDef)]
        for name, tree in trees():
            called = [node.func for node in ast.walk(tree) if isinstance(node, ast.Call)]
            for node in ast.walk(tree):
                if isinstance(node, ast.Attribute) and node.attr in methods + METHODS:
                    self.assertIn(node, called, (name, node.lineno))

    def test_lists_and_dicts_of_the_top_are_only_read(self):
        for name, tree in trees():
            tops = [node.targets[0].id for node in tree.body
                    if isinstance(node, ast.Assign) and isinstance(node.value, (ast.Dict, ast.List))]
            reads = []
            for node in ast.walk(tree):
                if isinstance(node, ast.Subscript) and isinstance(node.ctx, ast.Load):
                    reads.append(node.value)
                if isinstance(node, ast.Compare):
                    reads.extend(node.comparators)
                if isinstance(node, (ast.For, ast.comprehension)):
                    reads.append(node.iter)
                if isinstance(node, ast.Attribute) and node.attr in READING_METHODS:
                    reads.append(node.value)
                if isinstance(node, ast.Call) and isinstance(node.func, ast.Name) and node.func.id in READING_CALLS:
                    reads.extend(node.args)
            for node in ast.walk(tree):
                if isinstance(node, ast.Name) and node.id in tops and isinstance(node.ctx, ast.Load):
                    self.assertIn(node, reads, (name, node.lineno))

    def test_what_a_loop_walks_is_not_changed_in_it(self):
        for name, loop in nodes(ast.For):
            walked = [ast.dump(node) for node in ast.walk(loop.iter) if isinstance(node, (ast.Name, ast.Attribute))]
            for node in [part for row in loop.body for part in ast.walk(row)]:
                if isinstance(node, ast.Call) and isinstance(node.func, ast.Attribute):
                    if node.func.attr in CHANGING_METHODS:
                        self.assertNotIn(ast.dump(node.func.value), walked, (name, node.lineno))
                if isinstance(node, ast.Subscript) and isinstance(node.ctx, ast.Store):
                    self.assertNotIn(ast.dump(node.value), walked, (name, node.lineno))


if __name__ == "__main__":
    unittest.main()
