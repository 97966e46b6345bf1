"""The part of Python that the package keeps to, as far as it can be seen from the code's form."""

import ast
import builtins
import pathlib
import re
import unittest

PACKAGE = pathlib.Path(__file__).resolve().parent.parent / "poisescale"

PYTHONS_OWN = set(
    "len range enumerate zip min max sum abs sorted reversed int str bool list tuple dict set frozenset isinstance "
    "ord repr any all divmod Exception ValueError TypeError KeyError IndexError LookupError ZeroDivisionError "
    "ArithmeticError OverflowError RuntimeError NotImplementedError AttributeError StopIteration".split()
)

METHODS = set(
    "append clear copy count endswith extend find get index insert isalnum isalpha isdigit islower isspace isupper "
    "items join keys ljust lower lstrip partition pop remove replace reverse rfind rjust rpartition rsplit rstrip "
    "setdefault split splitlines startswith strip update upper values zfill bit_length".split()
)

NO_WORDS = re.compile(
    r"\b(type|typing|typing_extensions|enum|Enum|IntEnum|StrEnum|Flag|IntFlag|Generic|Protocol|ABC|ABCMeta|"
    r"namedtuple|NamedTuple|TypedDict|TYPE_CHECKING|abstractmethod)\b|dataclass|overload|contextmanager"
)

NODES = (
    ast.Module, ast.FunctionDef, ast.ClassDef, ast.arguments, ast.arg, ast.ImportFrom, ast.alias,
    ast.Assign, ast.AugAssign, ast.If, ast.While, ast.For, ast.Return, ast.Break, ast.Continue, ast.Pass, ast.Raise,
    ast.Try, ast.ExceptHandler, ast.Expr, ast.Constant, ast.List, ast.Tuple, ast.Dict, ast.BinOp, ast.UnaryOp,
    ast.BoolOp, ast.Compare, ast.IfExp, ast.Call, ast.keyword, ast.Attribute, ast.Subscript, ast.Slice, ast.Name,
    ast.ListComp, ast.comprehension, ast.JoinedStr, ast.FormattedValue, ast.Lambda, ast.expr_context, ast.boolop,
    ast.operator, ast.unaryop, ast.cmpop,
)


def files():
    return sorted(path for path in PACKAGE.iterdir() if path.name != "__pycache__")


def modules():
    return [(path, path.read_text(encoding="utf-8")) for path in files()]


def walked():
    for path, words in modules():
        for node in ast.walk(ast.parse(words)):
            yield path.name, node


def called(node):
    """The name of Python's own or the method that is called here, or None."""
    if not isinstance(node, ast.Call):
        return None
    return node.func.id if isinstance(node.func, ast.Name) else node.func.attr


def walked_on_the_spot(node, parent):
    """Whether what can be walked once stands where it is walked at once."""
    if isinstance(parent, (ast.For, ast.comprehension)):
        return parent.iter is node
    if called(parent) in ("list", "tuple", "dict", "sorted", "sum", "any", "all", "enumerate", "zip"):
        return parent.args[0] is node
    return called(parent) in ("min", "max") and parent.args == [node]


def bound_names(tree):
    found = set()
    for node in ast.walk(tree):
        if isinstance(node, (ast.FunctionDef, ast.ClassDef)):
            found.add(node.name)
        elif isinstance(node, ast.arg):
            found.add(node.arg)
        elif isinstance(node, ast.alias):
            found.add(node.name)
        elif isinstance(node, ast.ExceptHandler) and node.name:
            found.add(node.name)
        elif isinstance(node, ast.Name) and isinstance(node.ctx, ast.Store):
            found.add(node.id)
    return found


def defined_at_top(tree):
    return {node.name for node in tree.body if isinstance(node, (ast.FunctionDef, ast.ClassDef))}


class Files(unittest.TestCase):
    def test_plain_files_alone(self):
        self.assertIn(PACKAGE / "__init__.py", files())
        for path in files():
            self.assertRegex(path.name, r"\A(__init__|[a-z][a-z0-9_]*)\.py\Z")

    def test_signs_and_sizes(self):
        for path, words in modules():
            self.assertRegex(words, r"\A[ -~\n]*\Z", path.name)
            rows = words.split("\n")
            self.assertLessEqual(len(rows), 400, path.name)
            self.assertLessEqual(max(len(row) for row in rows), 120, path.name)

    def test_words_that_stand_nowhere(self):
        for path, words in modules():
            self.assertIsNone(NO_WORDS.search(words), path.name)

    def test_functions_are_short_and_plain(self):
        for name, node in walked():
            if isinstance(node, ast.FunctionDef):
                self.assertLessEqual(node.end_lineno - node.lineno + 1, 40, (name, node.name))
                self.assertEqual(node.decorator_list, [])
                told = node.args
                self.assertEqual((told.posonlyargs, told.kwonlyargs, told.vararg, told.kwarg), ([], [], None, None))


class Code(unittest.TestCase):
    def test_the_kinds_of_nodes(self):
        for name, node in walked():
            self.assertIsInstance(node, NODES, (name, getattr(node, "lineno", 0)))
            self.assertNotIsInstance(node, (ast.Div, ast.MatMult), name)

    def test_values_are_plain(self):
        for name, node in walked():
            if isinstance(node, ast.Constant):
                self.assertIn(type(node.value), (int, str, bool, type(None)), name)
                self.assertNotIn("%", str(node.value), name)

    def test_statements(self):
        for name, node in walked():
            if isinstance(node, (ast.For, ast.While)):
                self.assertEqual(node.orelse, [], (name, node.lineno))
            elif isinstance(node, ast.Assign):
                self.assertEqual(len(node.targets), 1, (name, node.lineno))
            elif isinstance(node, ast.Compare) and isinstance(node.ops[0], (ast.Is, ast.IsNot)):
                self.assertIsInstance(node.comparators[0], ast.Constant, (name, node.lineno))

    def test_an_assignment_gives_one_name_or_place(self):
        for name, node in walked():
            if isinstance(node, ast.Assign):
                self.assertIsInstance(node.targets[0], (ast.Name, ast.Subscript, ast.Attribute), (name, node.lineno))

    def test_what_can_be_walked_once_is_walked_at_once(self):
        once = ("zip", "enumerate", "reversed", "range", "items", "keys", "values")
        for name, parent in walked():
            for node in ast.iter_child_nodes(parent):
                if called(node) in once:
                    self.assertTrue(walked_on_the_spot(node, parent), (name, node.lineno))

    def test_no_power_but_a_small_written_one(self):
        for name, node in walked():
            if isinstance(node, (ast.BinOp, ast.AugAssign)) and isinstance(node.op, ast.Pow):
                power = node.right if isinstance(node, ast.BinOp) else node.value
                self.assertIsInstance(power, ast.Constant, (name, node.lineno))
                self.assertIn(power.value, range(65), (name, node.lineno))

    def test_a_comprehension_has_one_for_and_at_most_one_if(self):
        for name, node in walked():
            if isinstance(node, ast.ListComp):
                self.assertEqual(len(node.generators), 1, (name, node.lineno))
                self.assertLessEqual(len(node.generators[0].ifs), 1, (name, node.lineno))

    def test_an_expression_by_itself_is_a_call_or_the_docstring(self):
        for path, words in modules():
            tree = ast.parse(words)
            self.assertIsNotNone(ast.get_docstring(tree), path.name)
            for node in ast.walk(tree):
                if isinstance(node, ast.Expr) and node is not tree.body[0]:
                    self.assertIsInstance(node.value, ast.Call, (path.name, node.lineno))

    def test_names(self):
        for path, words in modules():
            tree = ast.parse(words)
            bound = bound_names(tree)
            for name in bound:
                self.assertRegex(name, r"\A[A-Za-z][A-Za-z0-9_]*\Z", path.name)
                self.assertNotIn(name, dir(builtins), path.name)
            for node in ast.walk(tree):
                if isinstance(node, ast.Name):
                    self.assertIn(node.id, bound | PYTHONS_OWN, (path.name, node.lineno))
                elif isinstance(node, ast.Attribute):
                    self.assertIn(node.attr, METHODS, (path.name, node.lineno))

    def test_imports_draw_from_the_defining_file_and_never_in_a_ring(self):
        tops = {f"poisescale.{path.stem}": ast.parse(words) for path, words in modules()}
        draws = {}
        for module, tree in tops.items():
            draws[module] = set()
            for node in ast.walk(tree):
                if isinstance(node, ast.ImportFrom):
                    self.assertEqual(node.level, 0, module)
                    self.assertIn(node.module, tops)
                    draws[module].add(node.module)
                    for part in node.names:
                        self.assertIsNone(part.asname)
                        self.assertIn(part.name, defined_at_top(tops[node.module]))
        while draws:
            free = [module for module in draws if not draws[module] & set(draws)]
            self.assertTrue(free, "files draw from one another in a ring")
            draws = {module: found for module, found in draws.items() if module not in free}


if __name__ == "__main__":
    unittest.main()
