"""The form of the package's files: the rules of LANGUAGE.md that a walk through the code can see."""

import ast
import pathlib
import re
import unittest

PACKAGE = pathlib.Path(__file__).resolve().parent.parent / "handsapart"
FILES = sorted(PACKAGE.glob("*.py"))

STATEMENTS = (
    ast.Assign, ast.AugAssign, ast.If, ast.While, ast.For, ast.Return, ast.Break, ast.Continue, ast.Pass, ast.Raise,
    ast.Try, ast.Expr, ast.FunctionDef, ast.ClassDef, ast.ImportFrom,
)
EXPRESSIONS = (
    ast.Constant, ast.List, ast.Tuple, ast.Dict, ast.Set, ast.BinOp, ast.UnaryOp, ast.BoolOp, ast.Compare, ast.IfExp,
    ast.Call, ast.Attribute, ast.Subscript, ast.Slice, ast.ListComp, ast.JoinedStr, ast.FormattedValue, ast.Lambda,
    ast.Name,
)
FUNCTIONS = """
    len range enumerate zip min max sum abs sorted reversed int str bool list tuple dict set frozenset isinstance ord
    repr any all divmod
""".split()
ERRORS = """
    Exception ValueError TypeError KeyError IndexError LookupError ZeroDivisionError ArithmeticError OverflowError
    RuntimeError NotImplementedError AttributeError StopIteration
""".split()
METHODS = """
    append clear copy count endswith extend find get index insert isalnum isalpha isdigit islower isspace isupper items
    join keys ljust lower lstrip partition pop remove replace reverse rfind rjust rpartition rsplit rstrip setdefault
    split splitlines startswith strip update upper values zfill bit_length
""".split()
OUT_WORDS = """
    type typing typing_extensions enum Enum IntEnum StrEnum Flag IntFlag Generic Protocol ABC ABCMeta namedtuple
    NamedTuple TypedDict TYPE_CHECKING abstractmethod
""".split()
OUT_NAMES = """
    register mro elements open input version_info with_traceback add_note format format_map getattr setattr vars dir id
    eval exec super globals locals hasattr delattr compile os sys gc
""".split()
TWO_UNDERSCORES = ["__init__", "__eq__", "__repr__", "__str__", "__len__"]
WALKED = ["zip", "enumerate", "reversed", "range", "items", "keys", "values"]
CHANGES = ["append", "clear", "extend", "insert", "pop", "remove", "reverse", "setdefault", "update"]
OF_PYTHONS_VALUES = {
    name for thing in [str, int, list, dict, set, bytes, tuple] for name in dir(thing) if not name.startswith("__")
}
WALKERS = ["list", "tuple", "dict", "sorted", "sum", "any", "all", "enumerate", "zip", "min", "max"]


def called(node):
    """The name by which a call calls: a function's or a method's."""
    return node.func.attr if isinstance(node.func, ast.Attribute) else getattr(node.func, "id", None)


def walked_by(node):
    """What a loop walks, itself or through enumerate, zip, reversed, items and their like."""
    if isinstance(node, ast.Call) and called(node) in WALKED:
        parts = node.args if isinstance(node.func, ast.Name) else [node.func.value]
        return [name for part in parts for name in walked_by(part)]
    return [ast.unparse(node)]


def own_names():
    """All names that the package's files define: functions, methods, classes."""
    names = []
    for file in FILES:
        for node in ast.walk(ast.parse(file.read_text())):
            if isinstance(node, (ast.FunctionDef, ast.ClassDef)):
                names.append(node.name)
    return names


def top_names(tree):
    """What a file's top binds: functions, classes and plain values."""
    names = [node.name for node in tree.body if isinstance(node, (ast.FunctionDef, ast.ClassDef))]
    return names + [node.targets[0].id for node in tree.body if isinstance(node, ast.Assign)]


def bound_names(tree):
    for node in ast.walk(tree):
        if isinstance(node, (ast.FunctionDef, ast.ClassDef)):
            yield node.name, node
        elif isinstance(node, ast.arg):
            yield node.arg, node
        elif isinstance(node, ast.Name) and isinstance(node.ctx, ast.Store):
            yield node.id, node


class TestForm(unittest.TestCase):
    def each_node(self, kinds):
        for file in FILES:
            for node in ast.walk(ast.parse(file.read_text())):
                if isinstance(node, kinds):
                    yield f"{file.name}:{getattr(node, 'lineno', 0)}", node

    def test_folder_holds_plain_files_alone(self):
        for path in PACKAGE.iterdir():
            if path.name != "__pycache__":
                self.assertRegex(path.name, r"^(__init__|__main__|[a-z][a-z0-9_]*)\.py$")

    def test_signs_and_sizes(self):
        for file in FILES:
            text = file.read_bytes().decode("ascii")
            self.assertRegex(text, r"^[ -~\n]*$", file.name)
            self.assertLessEqual(len(text.splitlines()), 400, file.name)
            self.assertLessEqual(max(len(line) for line in text.splitlines()), 120, file.name)
            for word in re.findall(r"\w+", text):
                self.assertNotIn(word, OUT_WORDS, file.name)
                self.assertNotRegex(word, "dataclass|overload|contextmanager")

    def test_functions_are_plain_and_small(self):
        for where, node in self.each_node(ast.FunctionDef):
            self.assertLessEqual(node.end_lineno - node.lineno + 1, 40, where)
            self.assertEqual(node.decorator_list, [], where)
            given = node.args
            self.assertFalse(given.vararg or given.kwarg or given.kwonlyargs or given.posonlyargs, where)

    def test_classes_are_plain(self):
        for where, node in self.each_node(ast.ClassDef):
            self.assertLessEqual(len(node.bases), 1, where)
            self.assertEqual((node.decorator_list, node.keywords), ([], []), where)
            for part in node.body:
                self.assertIsInstance(part, (ast.FunctionDef, ast.Pass), where)

    def test_statements_and_expressions(self):
        for where, node in self.each_node(ast.stmt):
            self.assertIsInstance(node, STATEMENTS, where)
            if isinstance(node, ast.Assign):
                self.assertEqual(len(node.targets), 1, where)
            if isinstance(node, (ast.For, ast.While)):
                self.assertEqual(node.orelse, [], where)
            if isinstance(node, ast.Try):
                self.assertEqual(node.finalbody, [], where)
        for where, node in self.each_node(ast.expr):
            self.assertIsInstance(node, EXPRESSIONS, where)
            if isinstance(node, ast.Constant):
                self.assertNotIsInstance(node.value, (float, bytes, complex), where)
                self.assertNotIn("%", str(node.value), where)
            if isinstance(node, ast.ListComp):
                self.assertEqual(len(node.generators), 1, where)
                self.assertLessEqual(len(node.generators[0].ifs), 1, where)
        for where, node in self.each_node((ast.Div, ast.MatMult)):
            self.fail(where)

    def test_bare_expressions_are_calls_or_a_files_docstring(self):
        for file in FILES:
            tree = ast.parse(file.read_text())
            for node in ast.walk(tree):
                if isinstance(node, ast.Expr) and node is not tree.body[0]:
                    self.assertIsInstance(node.value, ast.Call, f"{file.name}:{node.lineno}")

    def test_imports_are_of_the_package_and_from_the_defining_file(self):
        for where, node in self.each_node((ast.Import, ast.ImportFrom)):
            self.assertIsInstance(node, ast.ImportFrom, where)
            self.assertEqual(node.level, 0, where)
            self.assertRegex(node.module, r"^handsapart\.\w+$", where)
            source = ast.parse((PACKAGE / (node.module.split(".")[1] + ".py")).read_text())
            defined = top_names(source)
            for alias in node.names:
                self.assertIn(alias.name, defined, where)
                self.assertIsNone(alias.asname, where)

    def test_no_circle_of_imports(self):
        draws = {}
        for file in FILES:
            rows = [node for node in ast.parse(file.read_text()).body if isinstance(node, ast.ImportFrom)]
            draws[file.stem] = {row.module.split(".")[1] for row in rows}
        while draws:
            ends = [name for name in draws if not draws[name] & set(draws)]
            self.assertNotEqual(ends, [])
            for name in ends:
                del draws[name]

    def test_names(self):
        builtins = dir(__builtins__) if not isinstance(__builtins__, dict) else list(__builtins__)
        for file in FILES:
            tree = ast.parse(file.read_text())
            imported = [alias.name for node in tree.body if isinstance(node, ast.ImportFrom) for alias in node.names]
            bound = list(bound_names(tree))
            for name, node in bound:
                where = f"{file.name}:{node.lineno} {name}"
                self.assertTrue(re.match("[A-Za-z]", name) or name in TWO_UNDERSCORES, where)
                self.assertNotIn(name, builtins, where)
                self.assertNotIn(name, imported, where)
            known = [name for name, node in bound] + imported + FUNCTIONS + ERRORS
            for node in ast.walk(tree):
                if isinstance(node, ast.Name):
                    self.assertIn(node.id, known, f"{file.name}:{node.lineno}")
                if isinstance(node, (ast.Name, ast.Attribute)):
                    name = node.id if isinstance(node, ast.Name) else node.attr
                    self.assertNotIn(name, OUT_NAMES, f"{file.name}:{node.lineno}")

    def test_methods(self):
        own = own_names()
        for where, node in self.each_node(ast.Call):
            if isinstance(node.func, ast.Attribute):
                self.assertIn(node.func.attr, METHODS + own, where)

    def test_is_stands_beside_none_and_truths_alone(self):
        for where, node in self.each_node(ast.Compare):
            for sort, right in zip(node.ops, node.comparators):
                if isinstance(sort, (ast.Is, ast.IsNot)):
                    self.assertIn(ast.unparse(right), ["None", "True", "False"], where)

    def test_walks_are_walked_at_once(self):
        for file in FILES:
            tree = ast.parse(file.read_text())
            walked = []
            for node in ast.walk(tree):
                if isinstance(node, (ast.For, ast.comprehension)):
                    walked.append(node.iter)
                if isinstance(node, ast.Call) and called(node) in WALKERS:
                    walked += node.args
            for node in ast.walk(tree):
                if isinstance(node, ast.Call) and called(node) in WALKED:
                    self.assertTrue(any(node is one for one in walked), f"{file.name}:{node.lineno}")

    def test_what_a_loop_walks_is_not_changed_in_it(self):
        for where, node in self.each_node(ast.For):
            walked = walked_by(node.iter)
            for part in node.body:
                for inner in ast.walk(part):
                    if isinstance(inner, ast.Call) and called(inner) in CHANGES:
                        self.assertNotIn(ast.unparse(inner.func.value), walked, where)
                    if isinstance(inner, ast.Subscript) and isinstance(inner.ctx, ast.Store):
                        self.assertNotIn(ast.unparse(inner.value), walked, where)

    def test_sets_are_asked_on_the_spot(self):
        for file in FILES:
            tree = ast.parse(file.read_text())
            asked = []
            for node in ast.walk(tree):
                if isinstance(node, ast.Compare):
                    asked += [node.left] + node.comparators
                if isinstance(node, ast.Call) and called(node) in ["sorted", "len"] and not node.keywords:
                    asked += node.args
            for node in ast.walk(tree):
                if isinstance(node, ast.Set) or isinstance(node, ast.Call) and called(node) in ["set", "frozenset"]:
                    self.assertTrue(any(node is one for one in asked), f"{file.name}:{node.lineno}")

    def test_no_name_is_a_method_here_and_a_value_there(self):
        methods, values = set(), set()
        for where, node in self.each_node(ast.ClassDef):
            own = [part.name for part in node.body if isinstance(part, ast.FunctionDef)]
            self.assertEqual(len(own), len(set(own)), where)
            methods |= set(own)
        for where, node in self.each_node(ast.Attribute):
            if isinstance(node.ctx, ast.Store):
                values.add(node.attr)
        self.assertEqual(methods & values, set())
        self.assertEqual((methods | values) & OF_PYTHONS_VALUES, set())

    def test_what_stands_at_the_top_of_a_file(self):
        for file in FILES:
            tree = ast.parse(file.read_text())
            kept = []
            for node in tree.body[1:]:
                self.assertIsInstance(node, (ast.ImportFrom, ast.FunctionDef, ast.ClassDef, ast.Assign), file.name)
                if isinstance(node, ast.Assign):
                    kept.append(ast.unparse(node.targets[0]))
                    for part in ast.walk(node.value):
                        self.assertNotIsInstance(part, (ast.Call, ast.Set), f"{file.name}:{node.lineno}")
                        if part is not node.value:
                            self.assertNotIsInstance(part, (ast.List, ast.Dict), f"{file.name}:{node.lineno}")
            self.assertEqual(len(kept), len(set(kept)), file.name)
            for node in ast.walk(tree):
                if isinstance(node, ast.Call) and called(node) in CHANGES:
                    self.assertNotIn(ast.unparse(node.func.value), kept, f"{file.name}:{node.lineno}")

    def test_lists_and_dicts_of_a_files_top_are_only_read(self):
        kept = []
        for file in FILES:
            for node in ast.parse(file.read_text()).body:
                if isinstance(node, ast.Assign) and isinstance(node.value, (ast.List, ast.Dict)):
                    kept.append(node.targets[0].id)
        for file in FILES:
            tree = ast.parse(file.read_text())
            read = []
            for node in ast.walk(tree):
                if isinstance(node, ast.Subscript) and isinstance(node.ctx, ast.Load):
                    read.append(node.value)
                if isinstance(node, ast.Compare):
                    read += node.comparators
                if isinstance(node, (ast.For, ast.comprehension)):
                    read.append(node.iter)
                if isinstance(node, ast.Call) and called(node) in ["len", "list", "dict", "sorted"]:
                    read += node.args
                if isinstance(node, ast.Attribute) and node.attr in ["get", "items", "keys", "values", "index", "count"]:
                    read.append(node.value)
            for node in ast.walk(tree):
                if isinstance(node, ast.Name) and node.id in kept and isinstance(node.ctx, ast.Load):
                    self.assertTrue(any(node is one for one in read), f"{file.name}:{node.lineno}")

    def test_powers_are_written_out(self):
        for where, node in self.each_node(ast.BinOp):
            if isinstance(node.op, ast.Pow):
                self.assertIsInstance(node.right, ast.Constant, where)
                self.assertLessEqual(node.right.value, 64, where)

    def test_assignments_name_one_thing(self):
        for where, node in self.each_node(ast.Assign):
            self.assertIsInstance(node.targets[0], (ast.Name, ast.Attribute, ast.Subscript), where)

    def test_errors_are_raised_on_the_spot_and_taken_by_name(self):
        for where, node in self.each_node(ast.Raise):
            self.assertIsInstance(node.exc, ast.Call, where)
        for where, node in self.each_node(ast.ExceptHandler):
            self.assertIsNotNone(node.type, where)
            self.assertNotIn(ast.unparse(node.type), ["Exception", "TypeError"], where)
