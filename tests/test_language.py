"""Some of the rules L1 to L28, those that are easy to see in the files; the others are not tested here."""

import ast
import builtins
import pathlib
import re
import unittest

PACKAGE = pathlib.Path(__file__).resolve().parent.parent / "regrowth"
BUILT_IN = set(dir(builtins))
ALLOWED = set(
    "len range enumerate zip min max sum abs sorted reversed int str bool list tuple dict set frozenset "
    "isinstance ord repr any all divmod Exception ValueError TypeError KeyError IndexError LookupError "
    "ZeroDivisionError ArithmeticError OverflowError RuntimeError NotImplementedError AttributeError "
    "StopIteration".split()
)
METHODS = set(
    "append clear copy count endswith extend find get index insert isalnum isalpha isdigit islower isspace "
    "isupper items join keys ljust lower lstrip partition pop remove replace reverse rfind rjust rpartition "
    "rsplit rstrip setdefault split splitlines startswith strip update upper values zfill bit_length".split()
)
WORDS_NOWHERE = re.compile(
    r"\b(type|typing|typing_extensions|enum|Enum|IntEnum|StrEnum|Flag|IntFlag|Generic|Protocol|ABC|ABCMeta|"
    r"namedtuple|NamedTuple|TypedDict|TYPE_CHECKING|abstractmethod)\b|dataclass|overload|contextmanager"
)
NAMES_NOWHERE = set(
    "register mro elements open input version_info with_traceback add_note format format_map".split()
)
SPECIAL_METHODS = {"__init__", "__eq__", "__repr__", "__str__", "__len__"}
NODES_NOWHERE = (
    ast.With, ast.Match, ast.Delete, ast.Global, ast.Nonlocal, ast.Assert, ast.Yield, ast.YieldFrom, ast.Await,
    ast.AsyncFor, ast.AsyncWith, ast.AsyncFunctionDef, ast.Import, ast.SetComp, ast.DictComp, ast.GeneratorExp,
    ast.NamedExpr, ast.Starred, ast.Div, ast.AnnAssign,
)


def sources():
    return {path: path.read_text(encoding="utf-8") for path in sorted(PACKAGE.glob("*.py"))}


class LanguageTest(unittest.TestCase):
    def each_node(self):
        for path, text in sources().items():
            for node in ast.walk(ast.parse(text)):
                yield f"{path.name}:{getattr(node, 'lineno', 0)}", node

    def test_files(self):
        self.assertTrue((PACKAGE / "__init__.py").is_file())
        for path in PACKAGE.iterdir():
            if path.name != "__pycache__":
                self.assertRegex(path.name, r"\A([a-z][a-z0-9_]*|__init__|__main__)\.py\Z")

    def test_signs_lines_and_words(self):
        for path, text in sources().items():
            self.assertEqual([s for s in text if s != "\n" and not " " <= s <= "~"], [], path.name)
            self.assertLessEqual(len(text.splitlines()), 400, path.name)
            for number, line in enumerate(text.splitlines(), start=1):
                self.assertLessEqual(len(line), 120, f"{path.name}:{number}")
                self.assertIsNone(WORDS_NOWHERE.search(line), f"{path.name}:{number}")

    def test_the_top_of_a_module(self):
        allowed = (ast.ImportFrom, ast.FunctionDef, ast.ClassDef, ast.Assign)
        for path, text in sources().items():
            body = ast.parse(text).body
            self.assertIsNotNone(ast.get_docstring(ast.parse(text)), path.name)
            for node in body[1:]:
                self.assertIsInstance(node, allowed, f"{path.name}:{node.lineno}")
            bound = [n.name for n in body if isinstance(n, (ast.FunctionDef, ast.ClassDef))]
            bound += [n.targets[0].id for n in body if isinstance(n, ast.Assign)]
            self.assertEqual(len(bound), len(set(bound)), path.name)

    def test_imports(self):
        for where, node in self.each_node():
            if isinstance(node, ast.ImportFrom):
                self.assertEqual(node.level, 0, where)
                self.assertRegex(node.module, r"\Aregrowth\.[a-z_0-9]+\Z", where)
                self.assertNotIn("*", [alias.name for alias in node.names], where)

    def test_statements_and_expressions(self):
        for where, node in self.each_node():
            self.assertNotIsInstance(node, NODES_NOWHERE, where)
            if isinstance(node, (ast.For, ast.While)):
                self.assertEqual(node.orelse, [], where)
            if isinstance(node, ast.Assign):
                self.assertEqual(len(node.targets), 1, where)
                self.assertNotIsInstance(node.targets[0], (ast.Tuple, ast.List), where)
            if isinstance(node, ast.ListComp):
                self.assertEqual(len(node.generators), 1, where)
                self.assertLessEqual(len(node.generators[0].ifs), 1, where)
            if isinstance(node, ast.Try):
                self.assertEqual(node.finalbody, [], where)
            if isinstance(node, ast.Compare) and any(isinstance(op, (ast.Is, ast.IsNot)) for op in node.ops):
                self.assertIsInstance(node.comparators[0], ast.Constant, where)
            if isinstance(node, ast.FormattedValue):
                self.assertIsInstance(node.value, ast.Name, where)
                self.assertIsNone(node.format_spec, where)

    def test_values(self):
        for where, node in self.each_node():
            if isinstance(node, ast.Constant):
                self.assertIsInstance(node.value, (int, str, type(None)), where)
                if isinstance(node.value, str):
                    self.assertNotIn("%", node.value, where)

    def test_functions_and_classes(self):
        for where, node in self.each_node():
            if isinstance(node, ast.FunctionDef):
                self.assertLessEqual(node.end_lineno - node.lineno + 1, 40, where)
                self.assertEqual(node.decorator_list, [], where)
                self.assertIsNone(node.args.vararg, where)
                self.assertIsNone(node.args.kwarg, where)
                self.assertEqual(node.args.kwonlyargs + node.args.posonlyargs, [], where)
                self.check_name(node.name, where)
            if isinstance(node, ast.ClassDef):
                self.assertEqual(node.decorator_list, [], where)
                self.assertLessEqual(len(node.bases), 1, where)
                for inner in node.body:
                    is_words = isinstance(inner, ast.Expr) and isinstance(inner.value, ast.Constant)
                    self.assertTrue(is_words or isinstance(inner, (ast.FunctionDef, ast.Pass)), where)

    def test_names(self):
        for where, node in self.each_node():
            if isinstance(node, ast.Name):
                self.check_name(node.id, where)
                self.assertTrue(node.id in ALLOWED or node.id not in BUILT_IN, f"{where} {node.id}")
                if isinstance(node.ctx, ast.Store):
                    self.assertNotIn(node.id, BUILT_IN, where)
            if isinstance(node, ast.arg):
                self.check_name(node.arg, where)
                self.assertNotIn(node.arg, BUILT_IN, where)
            if isinstance(node, ast.Attribute):
                self.check_name(node.attr, where)

    def test_methods(self):
        own = {node.name for where, node in self.each_node() if isinstance(node, ast.FunctionDef)}
        kept = {
            node.attr for where, node in self.each_node()
            if isinstance(node, ast.Attribute) and isinstance(node.ctx, ast.Store)
        }
        for where, node in self.each_node():
            if isinstance(node, ast.Call) and isinstance(node.func, ast.Attribute):
                self.assertIn(node.func.attr, METHODS | own | kept, where)

    def check_name(self, name, where):
        self.assertNotIn(name, NAMES_NOWHERE, where)
        self.assertTrue(name in SPECIAL_METHODS or not name.startswith("_"), f"{where} {name}")


if __name__ == "__main__":
    unittest.main()
