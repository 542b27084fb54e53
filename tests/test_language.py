"""Those rules of LANGUAGE.md that a look at the package's files can tell, by their numbers."""

import ast
import builtins
import re
import unittest
from pathlib import Path

PACKAGE = Path(__file__).resolve().parent.parent / "shareones"
FILES = sorted(path for path in PACKAGE.rglob("*") if path.is_file() and "__pycache__" not in path.parts)

BUILTINS = set(
    "len range enumerate zip min max sum abs sorted reversed int str bool bytes list tuple dict set frozenset "
    "isinstance ord repr any all divmod iter next property staticmethod classmethod super Exception ValueError "
    "TypeError KeyError IndexError LookupError ZeroDivisionError ArithmeticError OverflowError RuntimeError "
    "NotImplementedError AttributeError StopIteration NotImplemented".split())
BARRED_NAMES = set("register mro elements open input version_info with_traceback add_note format format_map".split())
BARRED_WORDS = re.compile(
    r"\b(type|typing|typing_extensions|enum|Enum|IntEnum|StrEnum|Flag|IntFlag|Generic|Protocol|ABC|ABCMeta|namedtuple"
    r"|NamedTuple|TypedDict|TYPE_CHECKING|abstractmethod)\b|dataclass|overload|contextmanager")
METHODS = set(
    "append clear copy count endswith extend find get index insert isalnum isalpha isdigit islower isspace isupper items "
    "join keys ljust lower lstrip partition pop remove replace reverse rfind rjust rpartition rsplit rstrip setdefault "
    "split splitlines startswith strip update upper values zfill bit_length title capitalize swapcase casefold center "
    "expandtabs removeprefix removesuffix rindex isascii isdecimal isnumeric istitle isidentifier isprintable".split())
PATTERNS = (ast.MatchValue, ast.MatchSingleton, ast.MatchSequence, ast.MatchAs, ast.MatchStar, ast.MatchOr)
AT_ONCE = set("zip enumerate range reversed".split())
TAKING = set("list tuple dict sorted sum any all enumerate zip min max".split())
KEYWORDS = {"sorted": {"key", "reverse"}, "min": {"key", "default"}, "max": {"key", "default"}, "sum": {"start"},
            "enumerate": {"start"}, "zip": {"strict"}}
BARRED_STATEMENTS = (ast.Global, ast.AsyncFunctionDef, ast.AsyncFor, ast.AsyncWith, ast.Await, ast.Import)


def tree_of(path):
    return ast.parse(path.read_text("ascii"))


def bound_names(tree):
    """The names of parameters and variables that a file's functions bind."""
    for node in ast.walk(tree):
        if isinstance(node, ast.arg):
            yield node.arg, node
        if isinstance(node, ast.Name) and isinstance(node.ctx, ast.Store):
            yield node.id, node
        if isinstance(node, (ast.MatchAs, ast.MatchStar)) and node.name is not None:
            yield node.name, node


def captured_names(function):
    return {node.name for node in ast.walk(function) if isinstance(node, (ast.MatchAs, ast.MatchStar)) and node.name}


class Language(unittest.TestCase):
    def each_node(self):
        for path in FILES:
            for node in ast.walk(tree_of(path)):
                yield f"{path.name}:{getattr(node, 'lineno', 0)}", node

    def test_files_and_characters(self):
        """L1, L10, L14, L17."""
        self.assertIn(PACKAGE / "__init__.py", FILES)
        for path in FILES:
            self.assertRegex(path.name, r"\A(__init__|[a-z][a-z0-9_]*)\.py\Z")
            text = path.read_bytes().decode("ascii")
            self.assertIsNone(re.search(r"[^\n -~]", text), path.name)
            self.assertIsNone(BARRED_WORDS.search(text), path.name)
            rows = text.splitlines()
            self.assertLessEqual(len(rows), 400, path.name)
            self.assertLessEqual(max(map(len, rows)), 120, path.name)

    def test_imports(self):
        """L2, L16: from the very file of the package that defines the name, and never in a circle."""
        ahead = {}
        for path in FILES:
            ahead[path.stem] = set()
            for node in ast.walk(tree_of(path)):
                if isinstance(node, ast.ImportFrom):
                    self.assertRegex(node.module, r"\Ashareones\.[a-z_]+\Z")
                    stem = node.module.split(".")[1]
                    ahead[path.stem].add(stem)
                    defined = {part.name for part in tree_of(PACKAGE / f"{stem}.py").body if hasattr(part, "name")}
                    defined |= {part.targets[0].id for part in tree_of(PACKAGE / f"{stem}.py").body
                                if isinstance(part, ast.Assign)}
                    self.assertLessEqual({alias.name for alias in node.names}, defined, path.name)
        while ahead:
            free = [stem for stem in ahead if not ahead[stem]]
            self.assertTrue(free, f"imports in a circle: {sorted(ahead)}")
            ahead = {stem: ahead[stem] - set(free) for stem in ahead if stem not in free}

    def test_module_level(self):
        """L3: a docstring, imports, functions, classes and names of plain values."""
        plain = (ast.ImportFrom, ast.FunctionDef, ast.ClassDef, ast.Assign)
        for path in FILES:
            first, *others = tree_of(path).body
            self.assertIsInstance(first, ast.Expr, path.name)
            for node in others:
                self.assertIsInstance(node, plain, path.name)

    def test_functions_are_short(self):
        """L10."""
        for where, node in self.each_node():
            if isinstance(node, ast.FunctionDef):
                self.assertLessEqual(node.end_lineno - node.lineno + 1, 40, where)

    def test_names(self):
        """L8, L12, L15, L17."""
        for path in FILES:
            tree = tree_of(path)
            imported = {alias.name for node in tree.body if isinstance(node, ast.ImportFrom) for alias in node.names}
            classes = {node.name for node in tree.body if isinstance(node, ast.ClassDef)}
            for name, node in bound_names(tree):
                where = f"{path.name}:{node.lineno} {name}"
                self.assertRegex(name, r"\A[A-Za-z][A-Za-z0-9_]*\Z", where)
                self.assertNotIn(name, imported | classes | BARRED_NAMES | set(dir(builtins)), where)
            for node in ast.walk(tree):
                if isinstance(node, ast.Name) and node.id in dir(builtins):
                    self.assertIn(node.id, BUILTINS, f"{path.name}:{node.lineno}")
                if isinstance(node, (ast.FunctionDef, ast.ClassDef)):
                    self.assertNotIn(node.name, BARRED_NAMES | set(dir(builtins)), f"{path.name}:{node.lineno}")

    def test_expressions_and_statements(self):
        """L6, L7, L20, L27: no float, no `/`, no power by a name, no percent sign, `is` with constants only."""
        for where, node in self.each_node():
            self.assertNotIsInstance(node, BARRED_STATEMENTS, where)
            if isinstance(node, ast.Constant):
                self.assertNotIsInstance(node.value, (float, complex), where)
                if isinstance(node.value, str):
                    self.assertNotIn("%", node.value, where)
            if isinstance(node, (ast.BinOp, ast.AugAssign)):
                self.assertNotIsInstance(node.op, (ast.Div, ast.MatMult), where)
            if isinstance(node, ast.BinOp) and isinstance(node.op, ast.Pow):
                self.assertIsInstance(node.right, ast.Constant, where)
            if isinstance(node, ast.Compare) and any(isinstance(op, (ast.Is, ast.IsNot)) for op in node.ops):
                self.assertIsInstance(node.comparators[0], ast.Constant, where)

    def test_matches(self):
        """L6: plain patterns, and a captured name that means nothing else in its function."""
        for where, node in self.each_node():
            if isinstance(node, ast.pattern):
                self.assertIsInstance(node, PATTERNS, where)
            if isinstance(node, ast.MatchValue):
                self.assertIsInstance(node.value, ast.Constant, where)
            if isinstance(node, (ast.FunctionDef, ast.Lambda)):
                captured = captured_names(node)
                for part in ast.walk(node):
                    if isinstance(part, ast.arg):
                        self.assertNotIn(part.arg, captured, where)
                    if isinstance(part, ast.Name) and isinstance(part.ctx, ast.Store):
                        self.assertNotIn(part.id, captured, where)
                    if isinstance(part, (ast.Lambda, ast.FunctionDef)) and part != node:
                        self.assertFalse(captured & {inner.id for inner in ast.walk(part) if isinstance(inner, ast.Name)})

    def test_methods(self):
        """L25, L26: methods of builtin values from the list, or the package's own."""
        own = {node.name for _, node in self.each_node() if isinstance(node, ast.FunctionDef)}
        for where, node in self.each_node():
            if isinstance(node, ast.Call) and isinstance(node.func, ast.Attribute):
                self.assertIn(node.func.attr, METHODS | own, where)

    def test_module_values_are_not_changed(self):
        """L15: a name of the module level is bound once, and its lists and dicts are only read."""
        for path in FILES:
            body = tree_of(path).body
            names = [node.targets[0].id for node in body if isinstance(node, ast.Assign)]
            names += [node.name for node in body if isinstance(node, (ast.FunctionDef, ast.ClassDef))]
            names += [alias.name for node in body if isinstance(node, ast.ImportFrom) for alias in node.names]
            self.assertEqual(len(names), len(set(names)), path.name)
            for node in ast.walk(tree_of(path)):
                if isinstance(node, ast.Subscript) and not isinstance(node.ctx, ast.Load):
                    self.assertNotIn(getattr(node.value, "id", None), names, f"{path.name}:{node.lineno}")

    def test_classes(self):
        """L5, L18: plain methods only, and no name that is a method of one class and an attribute of another."""
        methods, assigned, read = set(), set(), set()
        classes = [node for _, node in self.each_node() if isinstance(node, ast.ClassDef)]
        for node in classes:
            self.assertEqual((node.decorator_list, len(node.bases) <= 1), ([], True), node.name)
            for part in node.body:
                self.assertIsInstance(part, (ast.FunctionDef, ast.Expr), node.name)
                if isinstance(part, ast.FunctionDef):
                    self.assertRegex(part.name, r"\A(__init__|[a-z][a-z0-9_]*)\Z")
                    methods.add(part.name)
        for where, node in self.each_node():
            if isinstance(node, ast.Attribute):
                self.assertIsInstance(node.value, (ast.Name, ast.Attribute, ast.Constant, ast.Call, ast.Subscript), where)
                (assigned if isinstance(node.ctx, ast.Store) else read).add(node.attr)
        self.assertFalse(methods & assigned)
        self.assertLessEqual(read, methods | assigned | METHODS)

    def test_functions_are_plain(self):
        """L4: no decorators, stars or defaults; here there are no nested functions and lambdas either."""
        for where, node in self.each_node():
            self.assertNotIsInstance(node, ast.Lambda, where)
            if isinstance(node, ast.FunctionDef):
                self.assertEqual(node.decorator_list, [], where)
                told = node.args
                self.assertEqual((told.posonlyargs, told.kwonlyargs, told.vararg, told.kwarg, told.defaults), ([], [], None, None, []))
                self.assertFalse([part for part in ast.walk(node) if isinstance(part, ast.FunctionDef) and part != node], where)

    def test_errors(self):
        """L19: the package's own errors, made on the spot; Python's own are not caught."""
        own = {node.name for _, node in self.each_node() if isinstance(node, ast.ClassDef)}
        for where, node in self.each_node():
            if isinstance(node, ast.ExceptHandler):
                self.assertIn(node.type.id, own, where)
            if isinstance(node, ast.Raise):
                self.assertIn(node.exc.func.id, own, where)
            if isinstance(node, ast.Try):
                self.assertEqual(node.finalbody, [], where)

    def test_iterated_at_once(self):
        """L23, L24: zip and the like stand where they are iterated, and sets are not kept."""
        for path in FILES:
            tree = tree_of(path)
            above = {child: node for node in ast.walk(tree) for child in ast.iter_child_nodes(node)}
            for node in ast.walk(tree):
                parent = above.get(node)
                where = f"{path.name}:{getattr(node, 'lineno', 0)}"
                called = parent.func.id if isinstance(parent, ast.Call) and isinstance(parent.func, ast.Name) else None
                name = getattr(getattr(node, "func", None), "id", getattr(getattr(node, "func", None), "attr", None))
                if isinstance(node, ast.Call) and (name in AT_ONCE or name in ("items", "keys", "values")):
                    self.assertTrue(isinstance(parent, (ast.For, ast.comprehension)) or called in TAKING, where)
                if isinstance(node, (ast.Set, ast.SetComp)) or (isinstance(node, ast.Call) and name == "set"):
                    self.assertIn(called, ("sorted", "len"), where)
                if isinstance(node, ast.Call) and node.keywords:
                    self.assertLessEqual({keyword.arg for keyword in node.keywords}, KEYWORDS.get(name, set()), where)


if __name__ == "__main__":
    unittest.main()
