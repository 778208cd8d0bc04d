"""The rules for the package's own files that can be seen from their texts: a net for slips, not the whole of the rules."""

import ast
import builtins
import pathlib
import re
import unittest

PACKAGE = pathlib.Path(__file__).resolve().parent.parent / "feedweb"
FILES = sorted(PACKAGE.rglob("*.py"))
OWN_NAMES = set("""len range enumerate zip min max sum abs sorted reversed int str bool list tuple dict set frozenset
    isinstance ord repr any all divmod Exception ValueError TypeError KeyError IndexError LookupError ZeroDivisionError
    ArithmeticError OverflowError RuntimeError NotImplementedError AttributeError StopIteration""".split())
OWN_METHODS = set("""append clear copy count endswith extend find get index insert isalnum isalpha isdigit islower
    isspace isupper items join keys ljust lower lstrip partition pop remove replace reverse rfind rjust rpartition
    rsplit rstrip setdefault split splitlines startswith strip update upper values zfill bit_length""".split())
METHODS_OF_PYTHON = {name for kind in (str, int, list, tuple, dict, set, bytes) for name in dir(kind)}
WORDS_OUT = re.compile(r"\b(type|typing|typing_extensions|enum|Enum|IntEnum|StrEnum|Flag|IntFlag|Generic|Protocol|ABC"
                       r"|ABCMeta|namedtuple|NamedTuple|TypedDict|TYPE_CHECKING|abstractmethod)\b"
                       r"|dataclass|overload|contextmanager")
STATEMENTS = (ast.FunctionDef, ast.ClassDef, ast.ImportFrom, ast.Assign, ast.AugAssign, ast.If, ast.While, ast.For,
              ast.Return, ast.Break, ast.Continue, ast.Pass, ast.Raise, ast.Try, ast.Expr)
EXPRESSIONS_OUT = (ast.SetComp, ast.DictComp, ast.GeneratorExp, ast.NamedExpr, ast.Starred, ast.Await, ast.Yield,
                   ast.YieldFrom, ast.Div, ast.MatMult)


def tree_of(path):
    return ast.parse(path.read_text())


def bound_names(tree):
    for node in ast.walk(tree):
        if isinstance(node, ast.Name) and isinstance(node.ctx, ast.Store):
            yield node.id
        elif isinstance(node, ast.arg):
            yield node.arg
        elif isinstance(node, (ast.FunctionDef, ast.ClassDef)):
            yield node.name


class Language(unittest.TestCase):
    def each_node(self, *kinds):
        for path in FILES:
            for node in ast.walk(tree_of(path)):
                if isinstance(node, kinds):
                    yield node, f"{path.name}:{node.lineno}"

    def test_the_files_are_found(self):
        named = {"__init__", "errors", "needs", "web", "feeding", "cuts", "islands", "notes"}
        self.assertTrue(named <= {path.stem for path in FILES})

    def test_nothing_else_lies_in_the_package(self):
        for path in PACKAGE.rglob("*"):
            if "__pycache__" not in path.parts:
                self.assertTrue(path.is_dir() or re.fullmatch(r"[a-z0-9_]+\.py", path.name), path)

    def test_signs_and_sizes(self):
        for path in FILES:
            rows = path.read_text().split("\n")
            self.assertLessEqual(len(rows), 400, path)
            for number, row in enumerate(rows, start=1):
                self.assertRegex(row, r"\A[ -~]{0,120}\Z", f"{path.name}:{number}")
        for node, place in self.each_node(ast.FunctionDef):
            self.assertLessEqual(node.end_lineno - node.lineno + 1, 40, place)

    def test_words_that_are_not_used(self):
        for path in FILES:
            self.assertIsNone(WORDS_OUT.search(path.read_text()), path)

    def test_statements_and_expressions(self):
        for node, place in self.each_node(ast.stmt):
            self.assertIsInstance(node, STATEMENTS, place)
            self.assertFalse(isinstance(node, (ast.While, ast.For)) and node.orelse, place)
            self.assertFalse(isinstance(node, ast.Try) and node.finalbody, place)
            self.assertFalse(isinstance(node, ast.Assign) and len(node.targets) > 1, place)
            self.assertEqual(getattr(node, "decorator_list", []), [], place)
        for path in FILES:
            for node in ast.walk(tree_of(path)):
                self.assertNotIsInstance(node, EXPRESSIONS_OUT, path)

    def test_values(self):
        for node, place in self.each_node(ast.Constant):
            self.assertNotIsInstance(node.value, (float, complex, bytes), place)
            self.assertFalse(isinstance(node.value, str) and "%" in node.value, place)

    def test_imports_are_the_packages_own(self):
        for node, place in self.each_node(ast.ImportFrom):
            self.assertRegex(f"{'.' * node.level}{node.module}", r"\A(feedweb\.[a-z_]+|__future__)\Z", place)
            self.assertNotIn("*", [alias.name for alias in node.names], place)

    def test_names(self):
        for path in FILES:
            for name in bound_names(tree_of(path)):
                self.assertTrue(not name.startswith("_") or name == "__init__", (path, name))
        for node, place in self.each_node(ast.Name):
            if hasattr(builtins, node.id):
                self.assertIn(node.id, OWN_NAMES, place)
                self.assertIsInstance(node.ctx, ast.Load, place)
        for node, place in self.each_node(ast.arg):
            self.assertFalse(hasattr(builtins, node.arg), place)

    def test_no_parameter_and_no_local_is_called_like_an_import_or_a_def_of_its_file(self):
        for path in FILES:
            tree = tree_of(path)
            imported = [alias.name for node in tree.body if isinstance(node, ast.ImportFrom) for alias in node.names]
            defined = [node.name for node in tree.body if isinstance(node, (ast.FunctionDef, ast.ClassDef))]
            for node in ast.walk(tree):
                stored = isinstance(node, ast.Name) and isinstance(node.ctx, ast.Store) and node.id
                name = node.arg if isinstance(node, ast.arg) else stored
                self.assertNotIn(name, imported + defined, path)

    def test_no_two_files_draw_from_one_another(self):
        drawn = {path.stem: {node.module.split(".")[-1] for node in tree_of(path).body if isinstance(node, ast.ImportFrom)}
                 for path in FILES}
        while drawn:
            free = [name for name in drawn if not drawn[name] & set(drawn)]
            self.assertTrue(free, drawn)
            for name in free:
                drawn.pop(name)

    def test_comprehensions_and_f_strings(self):
        for path in FILES:
            for node in ast.walk(tree_of(path)):
                if isinstance(node, ast.ListComp):
                    self.assertEqual(len(node.generators), 1, path)
                    self.assertLessEqual(len(node.generators[0].ifs), 1, path)
                if isinstance(node, ast.FormattedValue):
                    self.assertIsInstance(node.value, ast.Name, path)
                    self.assertIsNone(node.format_spec, path)
                    self.assertIn(node.conversion, (-1, ord("r")), path)

    def test_no_error_of_pythons_own_is_taken(self):
        for node, place in self.each_node(ast.ExceptHandler):
            self.assertFalse(hasattr(builtins, ast.unparse(node.type)), place)

    def test_methods_of_pythons_own_values(self):
        own = {name for path in FILES for name in bound_names(tree_of(path))}
        for node, place in self.each_node(ast.Attribute):
            if node.attr in METHODS_OF_PYTHON - own:
                self.assertIn(node.attr, OWN_METHODS | {"__init__"}, place)

    def test_is_stands_beside_none_true_false_alone(self):
        for node, place in self.each_node(ast.Compare):
            for sign, other in zip(node.ops, node.comparators):
                if isinstance(sign, (ast.Is, ast.IsNot)):
                    self.assertIn(ast.unparse(other), ("None", "True", "False"), place)


if __name__ == "__main__":
    unittest.main()
