"""The rules of LANGUAGE.md that can be seen file by file."""

import ast
import re
import unittest
from pathlib import Path

PACKAGE = Path(__file__).resolve().parent.parent / "fewdistances"
FILES = sorted(path for path in PACKAGE.rglob("*") if path.is_file() and "__pycache__" not in path.parts)

BUILTINS = set(
    "len range enumerate zip min max sum abs sorted reversed int str bool bytes list tuple dict set"
    " frozenset isinstance ord repr any all divmod Exception ValueError TypeError KeyError IndexError"
    " LookupError ZeroDivisionError ArithmeticError OverflowError RuntimeError NotImplementedError".split()
)
ALL_BUILTINS = set(dir(__import__("builtins")))
METHODS = set(
    "append clear copy count endswith extend find get index insert isalnum isalpha isdigit islower isspace"
    " isupper items join keys ljust lower lstrip partition pop remove replace reverse rfind rjust rpartition"
    " rsplit rstrip setdefault split splitlines startswith strip update upper values zfill bit_length"
    " add discard sort isascii isdecimal removeprefix".split()
)
BARRED_WORDS = re.compile(
    r"\b(type|typing|typing_extensions|enum|Enum|IntEnum|StrEnum|Flag|IntFlag|Generic|Protocol|ABC|ABCMeta"
    r"|namedtuple|NamedTuple|TypedDict|TYPE_CHECKING|abstractmethod)\b|dataclass|overload|contextmanager"
)
BARRED_NODES = (
    ast.With, ast.Match, ast.Global, ast.Nonlocal, ast.Yield, ast.YieldFrom, ast.AsyncFunctionDef, ast.Await,
    ast.GeneratorExp, ast.NamedExpr, ast.Div, ast.MatMult, ast.Import,
)
MODULE_NODES = (ast.ImportFrom, ast.FunctionDef, ast.ClassDef, ast.Assign)
BARRED_NAMES = set(
    "register mro elements open input version_info with_traceback add_note attrgetter breakpoint builtins compile"
    " copyright credits delattr dir eval exec exit gc getattr globals hasattr help id importlib license locals"
    " methodcaller os quit setattr super type vars sys".split()
)
INNER_METHODS = ("__init__", "__eq__", "__repr__", "__str__", "__len__")
# What is gone through on the spot, and what may go through it.
PASSING = ("zip", "enumerate", "reversed", "range")
PASSING_METHODS = ("items", "keys", "values")
GOERS = ("list", "tuple", "dict", "sorted", "sum", "any", "all", "enumerate", "zip", "bytes", "min", "max")
KEYWORDS = {"sorted": {"key", "reverse"}, "min": {"key", "default"}, "max": {"key", "default"}, "sum": {"start"},
            "enumerate": {"start"}, "zip": {"strict"}}


def own_imports(tree):
    return [node for node in tree.body if isinstance(node, ast.ImportFrom)]


def is_plain(node, functions, depth=0):
    """Whether a value of module level is plain: no list or dict within one, of functions those above only."""
    if isinstance(node, ast.Constant):
        return True
    if isinstance(node, ast.UnaryOp):
        return isinstance(node.op, ast.USub) and is_plain(node.operand, functions, depth)
    if isinstance(node, ast.Name):
        return depth > 0 and node.id in functions
    if isinstance(node, ast.Tuple):
        return all(is_plain(item, functions, depth + 1) for item in node.elts)
    if depth == 0 and isinstance(node, ast.List):
        return all(is_plain(item, functions, 1) for item in node.elts)
    if depth == 0 and isinstance(node, ast.Dict):
        return all(is_plain(item, functions, 1) for item in node.keys + node.values)
    return False


def called(node):
    """The name of what a call calls."""
    return getattr(node.func, "id", None) or getattr(node.func, "attr", None)


def is_passing(node):
    return isinstance(node, ast.Call) and (
        isinstance(node.func, ast.Name) and node.func.id in PASSING
        or isinstance(node.func, ast.Attribute) and node.func.attr in PASSING_METHODS)


def is_set(node):
    return isinstance(node, (ast.Set, ast.SetComp)) or isinstance(node, ast.Call) and called(node) in ("set", "frozenset")


class FormTest(unittest.TestCase):

    def setUp(self):
        self.texts = {path: path.read_text("utf-8") for path in FILES}
        self.trees = {path: ast.parse(text) for path, text in self.texts.items()}

    def nodes(self, *kinds):
        for path, tree in self.trees.items():
            for node in ast.walk(tree):
                if isinstance(node, kinds):
                    yield f"{path.name}:{getattr(node, 'lineno', 0)}", node

    def test_files(self):
        self.assertIn(PACKAGE / "__init__.py", FILES)
        for path in FILES:
            self.assertEqual(path.parent, PACKAGE)
            self.assertRegex(path.name, r"^([a-z][a-z0-9_]*|__init__)\.py$")
            self.assertNotIn(path.stem, ALL_BUILTINS)

    def test_characters_and_lengths(self):
        for path, text in self.texts.items():
            self.assertRegex(text, r"\A[ -~\n]*\Z", path.name)
            lines = text.split("\n")
            self.assertLessEqual(len(lines), 401, path.name)
            self.assertLessEqual(max(map(len, lines)), 120, path.name)
            self.assertIsNone(BARRED_WORDS.search(text), path.name)
        for where, node in self.nodes(ast.FunctionDef):
            self.assertLessEqual(node.end_lineno - node.lineno + 1, 40, where)

    def test_module_level(self):
        for path, tree in self.trees.items():
            self.assertIsNotNone(ast.get_docstring(tree), path.name)
            bound = []
            functions = set()
            for node in tree.body[1:]:
                self.assertIsInstance(node, MODULE_NODES, path.name)
                if isinstance(node, ast.ImportFrom):
                    bound += [alias.asname or alias.name for alias in node.names]
                elif isinstance(node, ast.Assign):
                    self.assertTrue(is_plain(node.value, functions), f"{path.name}:{node.lineno}")
                    self.assertEqual(len(node.targets), 1)
                    bound += [target.id for target in node.targets]
                else:
                    bound.append(node.name)
                    functions.add(node.name)
            self.assertEqual(len(bound), len(set(bound)), path.name)

    def test_imports_name_the_file_that_defines(self):
        for path, tree in self.trees.items():
            for node in own_imports(tree):
                self.assertEqual(node.level, 0)
                package, stem = node.module.split(".")
                self.assertEqual(package, "fewdistances")
                source = self.trees[PACKAGE / f"{stem}.py"]
                defined = {item.name for item in source.body if isinstance(item, (ast.FunctionDef, ast.ClassDef))}
                defined |= {item.targets[0].id for item in source.body if isinstance(item, ast.Assign)}
                for alias in node.names:
                    self.assertIn(alias.name, defined, path.name)

    def test_imports_go_one_way(self):
        needs = {path.stem: {node.module.split(".")[1] for node in own_imports(tree)}
                 for path, tree in self.trees.items()}
        done = set()
        while len(done) < len(needs):
            free = [stem for stem in needs if stem not in done and needs[stem] <= done]
            self.assertTrue(free, "files import from each other")
            done.update(free)

    def test_nodes(self):
        for where, node in self.nodes(*BARRED_NODES):
            self.fail(f"{where}: {type(node).__name__}")
        for where, node in self.nodes(ast.Starred):
            self.assertIsInstance(node.ctx, ast.Store, where)
        for where, node in self.nodes(ast.For, ast.While):
            self.assertFalse(node.orelse, where)
        for where, node in self.nodes(ast.Constant):
            self.assertNotIsInstance(node.value, (float, complex), where)
            if isinstance(node.value, str):
                self.assertNotIn(chr(37), node.value, where)

    def test_functions_and_classes(self):
        for where, node in self.nodes(ast.FunctionDef):
            self.assertFalse(node.decorator_list, where)
            self.assertIsNone(node.args.vararg, where)
            self.assertIsNone(node.args.kwarg, where)
            self.assertFalse(node.args.posonlyargs, where)
            if node.name.startswith("_"):
                self.assertIn(node.name, INNER_METHODS, where)
        for where, node in self.nodes(ast.ClassDef):
            self.assertFalse(node.decorator_list, where)
            self.assertLessEqual(len(node.bases), 1, where)

    def test_names(self):
        for where, node in self.nodes(ast.Name):
            if isinstance(node.ctx, ast.Load):
                self.assertTrue(node.id in BUILTINS or node.id not in ALL_BUILTINS, f"{where}: {node.id}")
            else:
                self.assertNotIn(node.id, ALL_BUILTINS, where)
            self.assertFalse(node.id.startswith("_"), where)
        for where, node in self.nodes(ast.arg):
            self.assertNotIn(node.arg, ALL_BUILTINS, where)
            self.assertFalse(node.arg.startswith("_"), where)

    def test_barred_names(self):
        for where, node in self.nodes(ast.Name, ast.arg, ast.FunctionDef, ast.ClassDef, ast.alias, ast.keyword):
            names = [getattr(node, field, None) for field in ("id", "arg", "name", "asname")]
            self.assertFalse(BARRED_NAMES.intersection(names), where)

    def test_locals_hide_no_import_and_nothing_of_the_module(self):
        for path, tree in self.trees.items():
            taken = {alias.asname or alias.name for node in own_imports(tree) for alias in node.names}
            taken |= {node.name for node in tree.body if isinstance(node, (ast.FunctionDef, ast.ClassDef))}
            for function in ast.walk(tree):
                if isinstance(function, (ast.FunctionDef, ast.Lambda)):
                    for node in ast.walk(function):
                        if isinstance(node, ast.arg):
                            self.assertNotIn(node.arg, taken, f"{path.name}:{node.lineno}")
                        elif isinstance(node, ast.Name) and isinstance(node.ctx, ast.Store):
                            self.assertNotIn(node.id, taken, f"{path.name}:{node.lineno}")

    def test_is_stands_with_none_and_truths_only(self):
        for where, node in self.nodes(ast.Compare):
            for sign, side in zip(node.ops, node.comparators):
                if isinstance(sign, (ast.Is, ast.IsNot)):
                    self.assertIsInstance(side, ast.Constant, where)
                    self.assertIn(side.value, (None, True, False), where)

    def test_powers_are_written_out(self):
        for where, node in self.nodes(ast.BinOp):
            if isinstance(node.op, ast.Pow):
                self.assertIsInstance(node.right, ast.Constant, where)
                self.assertIn(node.right.value, range(65), where)

    def own_methods(self):
        return {item.name for where, node in self.nodes(ast.ClassDef) for item in node.body
                if isinstance(item, ast.FunctionDef)}

    def parents(self):
        for where, node in self.nodes(ast.AST):
            for child in ast.iter_child_nodes(node):
                yield f"{where}:{getattr(child, 'lineno', 0)}", node, child

    def test_methods_called(self):
        own = self.own_methods()
        for where, node in self.nodes(ast.Call):
            if isinstance(node.func, ast.Attribute):
                self.assertIn(node.func.attr, METHODS | own, where)
            else:
                self.assertIsInstance(node.func, ast.Name, where)

    def test_methods_and_attributes_share_no_name(self):
        methods = self.own_methods()
        assigned = {node.attr for where, node in self.nodes(ast.Attribute) if isinstance(node.ctx, ast.Store)}
        self.assertFalse(methods & assigned)
        self.assertFalse((methods | assigned) & METHODS)
        calls = {id(node.func) for where, node in self.nodes(ast.Call)}
        for where, node in self.nodes(ast.Attribute):
            if id(node) not in calls:
                self.assertIn(node.attr, assigned, where)
            if isinstance(node.ctx, ast.Store):
                self.assertIsInstance(node.value, ast.Name, where)
        for where, node in self.nodes(ast.ClassDef):
            for item in node.body:
                self.assertTrue(isinstance(item, ast.FunctionDef) or ast.get_docstring(node), where)
                self.assertIsInstance(item, (ast.FunctionDef, ast.Expr), where)

    def test_values_of_the_module_are_only_read(self):
        for path, tree in self.trees.items():
            tables = {node.targets[0].id for node in tree.body if isinstance(node, ast.Assign)
                      and isinstance(node.value, (ast.List, ast.Dict))}
            for function in tree.body:
                for node in ast.walk(function) if isinstance(function, (ast.FunctionDef, ast.ClassDef)) else ():
                    where = f"{path.name}:{getattr(node, 'lineno', 0)}"
                    if isinstance(node, ast.Subscript) and not isinstance(node.ctx, ast.Load):
                        self.assertNotIn(getattr(node.value, "id", None), tables, where)
                    if isinstance(node, ast.Return):
                        self.assertNotIn(getattr(node.value, "id", None), tables, where)
                    if isinstance(node, ast.Call) and isinstance(node.func, ast.Attribute):
                        if getattr(node.func.value, "id", None) in tables:
                            self.assertEqual(node.func.attr, "get", where)

    def test_what_passes_is_gone_through_on_the_spot(self):
        for where, parent, child in self.parents():
            if is_passing(child):
                goes = isinstance(parent, (ast.For, ast.comprehension)) and parent.iter is child
                taken = isinstance(parent, ast.Call) and called(parent) in GOERS
                sized = isinstance(parent, ast.Call) and called(parent) == "len" and called(child) == "range"
                self.assertTrue(goes or taken or sized, where)

    def test_sets_stand_where_they_may(self):
        for where, parent, child in self.parents():
            if is_set(child):
                taken = isinstance(parent, ast.Call) and called(parent) in ("sorted", "len") and not parent.keywords
                self.assertTrue(taken or isinstance(parent, ast.Compare), where)

    def test_keywords(self):
        own = {node.name for where, node in self.nodes(ast.FunctionDef, ast.ClassDef)}
        for where, node in self.nodes(ast.Call):
            if node.keywords and called(node) not in own:
                allowed = KEYWORDS.get(called(node), set())
                self.assertTrue({keyword.arg for keyword in node.keywords} <= allowed, where)

    def test_raised_on_the_spot(self):
        errors = {node.name for node in self.trees[PACKAGE / "errors.py"].body if isinstance(node, ast.ClassDef)}
        for where, node in self.nodes(ast.Raise):
            self.assertIsInstance(node.exc, ast.Call, where)
            self.assertIn(called(node.exc), errors, where)

    def test_backslashes(self):
        for path, text in self.texts.items():
            self.assertIsNone(re.search(r"\\[^nt\\\"']", text), path.name)

    def test_handlers_name_errors(self):
        for where, node in self.nodes(ast.ExceptHandler):
            self.assertIsNotNone(node.type, where)
            for name in ast.walk(node.type):
                if isinstance(name, ast.Name):
                    self.assertNotIn(name.id, ("Exception", "TypeError", "BaseException"), where)


if __name__ == "__main__":
    unittest.main()
