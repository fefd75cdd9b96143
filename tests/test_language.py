"""Some of the rules L1 to L28, those that can be seen in the files by their form; the others are not tested here."""

import ast
import builtins
import pathlib
import re
import unittest

PACKAGE = pathlib.Path(__file__).resolve().parent.parent / "regrowth"
BUILT_IN = set(dir(builtins))
ALLOWED = set(
    "len range enumerate zip min max sum abs sorted reversed int str bool list tuple dict set frozenset "
    "isinstance ord repr any all divmod Exception ValueError TypeError KeyError IndexError LookupError "
    "ZeroDivisionError ArithmeticError OverflowError RuntimeError NotImplementedError AttributeError "
    "StopIteration".split()
)
METHODS = set(
    "append clear copy count endswith extend find get index insert isalnum isalpha isdigit islower isspace "
    "isupper items join keys ljust lower lstrip partition pop remove replace reverse rfind rjust rpartition "
    "rsplit rstrip setdefault split splitlines startswith strip update upper values zfill bit_length".split()
)
WORDS_NOWHERE = re.compile(
    r"\b(type|typing|typing_extensions|enum|Enum|IntEnum|StrEnum|Flag|IntFlag|Generic|Protocol|ABC|ABCMeta|"
    r"namedtuple|NamedTuple|TypedDict|TYPE_CHECKING|abstractmethod)\b|dataclass|overload|contextmanager"
)
NAMES_NOWHERE = set(
    "register mro elements open input version_info with_traceback add_note format format_map".split()
)
NO_NAMES = set(
    "attrgetter breakpoint builtins compile copyright credits delattr dir eval exec exit gc getattr globals hasattr "
    "help id importlib license locals methodcaller os quit setattr super type vars sys chr print".split()
)
WALKED = {"zip", "enumerate", "reversed", "range"}
WALKED_METHODS = {"items", "keys", "values"}
WALKERS = {"list", "tuple", "dict", "sorted", "sum", "any", "all", "enumerate", "zip"}
KEYWORDS = {
    "sorted": {"key", "reverse"}, "min": {"key", "default"}, "max": {"key", "default"}, "sum": {"start"},
    "enumerate": {"start"}, "zip": {"strict"},
}
ERRORS = {name for name in ALLOWED if name.endswith(("Error", "Exception", "Iteration"))}
CHANGING = {"append", "clear", "extend", "insert", "pop", "remove", "reverse", "setdefault", "update"}
VALUE_NAMES = set("count index title find get join lower upper split strip copy add".split())
PYTHONS_OWN = {name for kind in (str, int, list, dict, set, bytes, tuple) for name in dir(kind)}
SPECIAL_METHODS = {"__init__", "__eq__", "__repr__", "__str__", "__len__"}
NODES_NOWHERE = (
    ast.With, ast.Match, ast.Delete, ast.Global, ast.Nonlocal, ast.Assert, ast.Yield, ast.YieldFrom, ast.Await,
    ast.AsyncFor, ast.AsyncWith, ast.AsyncFunctionDef, ast.Import, ast.SetComp, ast.DictComp, ast.GeneratorExp,
    ast.NamedExpr, ast.Starred, ast.Div, ast.AnnAssign,
)


def sources():
    return {path: path.read_text(encoding="utf-8") for path in sorted(PACKAGE.glob("*.py"))}


class LanguageTest(unittest.TestCase):
    def each_node(self):
        for path, text in sources().items():
            for node in ast.walk(ast.parse(text)):
                yield f"{path.name}:{getattr(node, 'lineno', 0)}", node

    def test_files(self):
        self.assertTrue((PACKAGE / "__init__.py").is_file())
        for path in PACKAGE.iterdir():
            if path.name != "__pycache__":
                self.assertRegex(path.name, r"\A([a-z][a-z0-9_]*|__init__|__main__)\.py\Z")

    def test_signs_lines_and_words(self):
        for path, text in sources().items():
            self.assertEqual([s for s in text if s != "\n" and not " " <= s <= "~"], [], path.name)
            self.assertLessEqual(len(text.splitlines()), 400, path.name)
            for number, line in enumerate(text.splitlines(), start=1):
                self.assertLessEqual(len(line), 120, f"{path.name}:{number}")
                self.assertIsNone(WORDS_NOWHERE.search(line), f"{path.name}:{number}")

    def test_the_top_of_a_module(self):
        allowed = (ast.ImportFrom, ast.FunctionDef, ast.ClassDef, ast.Assign)
        for path, text in sources().items():
            body = ast.parse(text).body
            self.assertIsNotNone(ast.get_docstring(ast.parse(text)), path.name)
            for node in body[1:]:
                self.assertIsInstance(node, allowed, f"{path.name}:{node.lineno}")
            bound = [n.name for n in body if isinstance(n, (ast.FunctionDef, ast.ClassDef))]
            bound += [n.targets[0].id for n in body if isinstance(n, ast.Assign)]
            self.assertEqual(len(bound), len(set(bound)), path.name)

    def test_imports(self):
        for where, node in self.each_node():
            if isinstance(node, ast.ImportFrom):
                self.assertEqual(node.level, 0, where)
                self.assertRegex(node.module, r"\Aregrowth\.[a-z_0-9]+\Z", where)
                self.assertNotIn("*", [alias.name for alias in node.names], where)

    def test_statements_and_expressions(self):
        for where, node in self.each_node():
            self.assertNotIsInstance(node, NODES_NOWHERE, where)
            if isinstance(node, (ast.For, ast.While)):
                self.assertEqual(node.orelse, [], where)
            if isinstance(node, ast.Assign):
                self.assertEqual(len(node.targets), 1, where)
                self.assertNotIsInstance(node.targets[0], (ast.Tuple, ast.List), where)
            if isinstance(node, ast.ListComp):
                self.assertEqual(len(node.generators), 1, where)
                self.assertLessEqual(len(node.generators[0].ifs), 1, where)
            if isinstance(node, ast.Try):
                self.assertEqual(node.finalbody, [], where)
            if isinstance(node, ast.Compare) and any(isinstance(op, (ast.Is, ast.IsNot)) for op in node.ops):
                self.assertIsInstance(node.comparators[0], ast.Constant, where)
            if isinstance(node, ast.FormattedValue):
                self.assertIsInstance(node.value, ast.Name, where)
                self.assertIsNone(node.format_spec, where)

    def test_values(self):
        for where, node in self.each_node():
            if isinstance(node, ast.Constant):
                self.assertIsInstance(node.value, (int, str, type(None)), where)
                if isinstance(node.value, str):
                    self.assertNotIn("%", node.value, where)

    def test_functions_and_classes(self):
        for where, node in self.each_node():
            if isinstance(node, ast.FunctionDef):
                self.assertLessEqual(node.end_lineno - node.lineno + 1, 40, where)
                self.assertEqual(node.decorator_list, [], where)
                self.assertIsNone(node.args.vararg, where)
                self.assertIsNone(node.args.kwarg, where)
                self.assertEqual(node.args.kwonlyargs + node.args.posonlyargs, [], where)
                self.check_name(node.name, where)
            if isinstance(node, ast.ClassDef):
                self.assertEqual(node.decorator_list, [], where)
                self.assertLessEqual(len(node.bases), 1, where)
                for inner in node.body:
                    is_words = isinstance(inner, ast.Expr) and isinstance(inner.value, ast.Constant)
                    self.assertTrue(is_words or isinstance(inner, (ast.FunctionDef, ast.Pass)), where)

    def test_names(self):
        for where, node in self.each_node():
            if isinstance(node, ast.Name):
                self.check_name(node.id, where)
                self.assertTrue(node.id in ALLOWED or node.id not in BUILT_IN, f"{where} {node.id}")
                if isinstance(node.ctx, ast.Store):
                    self.assertNotIn(node.id, BUILT_IN, where)
            if isinstance(node, ast.arg):
                self.check_name(node.arg, where)
                self.assertNotIn(node.arg, BUILT_IN, where)
            if isinstance(node, ast.Attribute):
                self.check_name(node.attr, where)

    def test_methods(self):
        own = {node.name for where, node in self.each_node() if isinstance(node, ast.FunctionDef)}
        kept = {
            node.attr for where, node in self.each_node()
            if isinstance(node, ast.Attribute) and isinstance(node.ctx, ast.Store)
        }
        for where, node in self.each_node():
            if isinstance(node, ast.Call) and isinstance(node.func, ast.Attribute):
                self.assertIn(node.func.attr, METHODS | own | kept, where)

    def each_with_parent(self):
        for path, text in sources().items():
            tree = ast.parse(text)
            for parent in ast.walk(tree):
                for node in ast.iter_child_nodes(parent):
                    yield f"{path.name}:{getattr(node, 'lineno', 0)}", node, parent

    def test_walked_at_once(self):
        for where, node, parent in self.each_with_parent():
            if isinstance(node, ast.Call) and self.is_walked(node):
                self.assertTrue(self.walks(parent, node), where)

    def is_walked(self, node):
        if isinstance(node.func, ast.Attribute):
            return node.func.attr in WALKED_METHODS
        return isinstance(node.func, ast.Name) and node.func.id in WALKED

    def walks(self, parent, node):
        if isinstance(parent, (ast.For, ast.comprehension)):
            return parent.iter is node
        if isinstance(parent, ast.Call) and isinstance(parent.func, ast.Name):
            if parent.func.id == "zip":
                return node in parent.args
            if parent.func.id in ("min", "max"):
                return parent.args == [node]
            return parent.func.id in WALKERS and parent.args[0] is node
        return isinstance(parent, ast.Call) and isinstance(parent.func, ast.Attribute) and parent.func.attr == "join"

    def test_sets_are_not_kept(self):
        for where, node, parent in self.each_with_parent():
            self.assertNotIsInstance(node, ast.Set, where)
            if isinstance(node, ast.Call) and isinstance(node.func, ast.Name) and node.func.id in ("set", "frozenset"):
                beside = isinstance(parent, (ast.Compare, ast.BinOp))
                within = isinstance(parent, ast.Call) and getattr(parent.func, "id", "") in ("sorted", "len")
                self.assertTrue(beside or within and not parent.keywords, where)

    def test_what_a_loop_walks_is_not_changed_in_it(self):
        for where, loop in self.each_node():
            if isinstance(loop, ast.For):
                walked = {ast.unparse(node) for node in ast.walk(loop.iter) if isinstance(node, (ast.Name, ast.Attribute))}
                if isinstance(loop.iter, ast.Call) and getattr(loop.iter.func, "id", "") in ("list", "sorted", "range"):
                    walked = set()
                for node in [inner for row in loop.body for inner in ast.walk(row)]:
                    if isinstance(node, ast.Call) and isinstance(node.func, ast.Attribute):
                        if node.func.attr in CHANGING:
                            self.assertNotIn(ast.unparse(node.func.value), walked, where)
                    if isinstance(node, ast.Subscript) and isinstance(node.ctx, ast.Store):
                        self.assertNotIn(ast.unparse(node.value), walked, where)

    def test_keywords(self):
        for where, node in self.each_node():
            if isinstance(node, ast.Call) and node.keywords:
                known = KEYWORDS.get(getattr(node.func, "id", ""), set())
                self.assertLessEqual({keyword.arg for keyword in node.keywords}, known, where)

    def test_no_annotations_and_plain_defaults(self):
        for where, node in self.each_node():
            if isinstance(node, ast.FunctionDef):
                self.assertIsNone(node.returns, where)
                for default in node.args.defaults:
                    self.assertIsInstance(default, ast.Constant, where)
            if isinstance(node, ast.arg):
                self.assertIsNone(node.annotation, where)

    def test_locals_are_not_called_like_what_a_file_draws_or_defines(self):
        for path, text in sources().items():
            tree = ast.parse(text)
            taken = {alias.asname or alias.name for node in tree.body if isinstance(node, ast.ImportFrom) for alias in node.names}
            taken |= {node.name for node in tree.body if isinstance(node, (ast.ClassDef, ast.FunctionDef))}
            for def_node in [node for node in ast.walk(tree) if isinstance(node, (ast.FunctionDef, ast.Lambda))]:
                for node in ast.walk(def_node):
                    where = f"{path.name}:{getattr(node, 'lineno', 0)}"
                    if isinstance(node, ast.arg):
                        self.assertNotIn(node.arg, taken, where)
                    if isinstance(node, ast.Name) and isinstance(node.ctx, ast.Store):
                        self.assertNotIn(node.id, taken, where)

    def test_what_is_drawn_is_defined_there_and_no_two_files_draw_from_one_another(self):
        defined, drawn = {}, {}
        for path, text in sources().items():
            tree = ast.parse(text)
            name = "regrowth." + path.stem
            defined[name] = {n.name for n in tree.body if isinstance(n, (ast.FunctionDef, ast.ClassDef))}
            defined[name] |= {n.targets[0].id for n in tree.body if isinstance(n, ast.Assign)}
            drawn[name] = [node for node in tree.body if isinstance(node, ast.ImportFrom)]
        for name, rows in drawn.items():
            for row in rows:
                for alias in row.names:
                    self.assertIn(alias.name, defined[row.module], name)
                    self.assertIsNone(alias.asname, name)
        ready = set()
        while True:
            more = {n for n in drawn if n not in ready and all(row.module in ready for row in drawn[n])}
            if not more:
                break
            ready |= more
        self.assertEqual(ready, set(drawn))

    def test_what_is_drawn_is_used(self):
        for path, text in sources().items():
            tree = ast.parse(text)
            used = {node.id for node in ast.walk(tree) if isinstance(node, ast.Name)}
            for node in tree.body:
                if isinstance(node, ast.ImportFrom):
                    for alias in node.names:
                        self.assertIn(alias.name, used, path.name)

    def test_methods_and_values_of_objects(self):
        methods, kept = set(), set()
        for where, node in self.each_node():
            if isinstance(node, ast.ClassDef):
                own = [inner.name for inner in node.body if isinstance(inner, ast.FunctionDef)]
                self.assertEqual(len(own), len(set(own)), where)
                methods |= set(own)
            if isinstance(node, ast.Attribute) and isinstance(node.ctx, ast.Store):
                self.assertIsInstance(node.value, ast.Name, where)
                self.assertTrue(node.attr in VALUE_NAMES or node.attr not in PYTHONS_OWN, where)
                self.assertNotIn(node.attr, ("args", "sort", "format", "encode"), where)
                kept.add(node.attr)
        self.assertEqual(methods & kept, set())
        self.assertEqual((methods - SPECIAL_METHODS) & (PYTHONS_OWN - METHODS - {"add", "discard"}), set())

    def test_errors(self):
        own = {node.name for where, node in self.each_node() if isinstance(node, ast.ClassDef)}
        for where, node in self.each_node():
            if isinstance(node, ast.ExceptHandler):
                self.assertIsInstance(node.type, ast.Name, where)
                self.assertIn(node.type.id, own | {"KeyError", "ZeroDivisionError", "StopIteration"}, where)
            if isinstance(node, ast.Raise):
                self.assertIsInstance(node.exc, ast.Call, where)
                self.assertIn(node.exc.func.id, own, where)

    def test_classes_stand_at_the_top_and_are_not_handed_on(self):
        own = {node.name for where, node in self.each_node() if isinstance(node, ast.ClassDef)}
        for where, node, parent in self.each_with_parent():
            if isinstance(node, ast.ClassDef):
                self.assertIsInstance(parent, ast.Module, where)
            if isinstance(node, ast.Name) and node.id in own | ERRORS:
                called = isinstance(parent, ast.Call) and parent.func is node
                based = isinstance(parent, (ast.ClassDef, ast.ExceptHandler))
                init = isinstance(parent, ast.Attribute) and parent.attr == "__init__"
                self.assertTrue(called or based or init, where)

    def test_what_a_top_holds_is_only_read(self):
        for path, text in sources().items():
            tree = ast.parse(text)
            tops = {n.targets[0].id: n.value for n in tree.body if isinstance(n, ast.Assign)}
            for name, value in tops.items():
                for inner in list(ast.walk(value))[1:]:
                    self.assertNotIsInstance(inner, (ast.List, ast.Dict, ast.Call), f"{path.name} {name}")
            held = {name for name, value in tops.items() if isinstance(value, (ast.List, ast.Dict))}
            for parent in ast.walk(tree):
                for node in ast.iter_child_nodes(parent):
                    if isinstance(node, ast.Name) and node.id in held and isinstance(node.ctx, ast.Load):
                        read = isinstance(parent, (ast.Subscript, ast.Compare, ast.For, ast.comprehension))
                        got = isinstance(parent, ast.Attribute) and parent.attr in ("get", "items", "keys", "values")
                        copied = isinstance(parent, ast.Call) and getattr(parent.func, "id", "") in ("list", "dict", "len")
                        self.assertTrue(read or got or copied, f"{path.name}:{node.lineno} {node.id}")

    def check_name(self, name, where):
        self.assertNotIn(name, NO_NAMES, where)
        self.assertNotIn(name, NAMES_NOWHERE, where)
        self.assertTrue(name in SPECIAL_METHODS or not name.startswith("_"), f"{where} {name}")


if __name__ == "__main__":
    unittest.main()
