"""The form of the package's files, as far as it can be seen from outside: the rules L1 to L28."""

import ast
import builtins
import pathlib
import re
import unittest

PACKAGE = pathlib.Path(__file__).resolve().parent.parent / "harvestgame"

NODES = (
    ast.Module, ast.Expr, ast.ImportFrom, ast.alias, ast.FunctionDef, ast.arguments, ast.arg, ast.ClassDef,
    ast.Assign, ast.AugAssign, ast.If, ast.While, ast.For, ast.Return, ast.Break, ast.Continue, ast.Pass,
    ast.Raise, ast.Try, ast.ExceptHandler, ast.Name, ast.Attribute, ast.Subscript, ast.Slice, ast.Call,
    ast.keyword, ast.Constant, ast.List, ast.Tuple, ast.Dict, ast.ListComp, ast.comprehension, ast.Lambda,
    ast.BinOp, ast.UnaryOp, ast.BoolOp, ast.Compare, ast.IfExp, ast.expr_context, ast.operator, ast.unaryop,
    ast.boolop, ast.cmpop,
)
OWN_NAMES = set(
    "len range enumerate zip min max sum abs sorted reversed int str bool list tuple dict set frozenset isinstance "
    "ord repr any all divmod Exception ValueError TypeError KeyError IndexError LookupError ZeroDivisionError "
    "ArithmeticError OverflowError RuntimeError NotImplementedError AttributeError StopIteration".split()
)
METHODS = set(
    "append clear copy count endswith extend find get index insert isalnum isalpha isdigit islower isspace isupper "
    "items join keys ljust lower lstrip partition pop remove replace reverse rfind rjust rpartition rsplit rstrip "
    "setdefault split splitlines startswith strip update upper values zfill bit_length".split()
)
NOT_USED = set("register mro elements open input version_info with_traceback add_note format format_map".split())
NO_WORDS = re.compile(
    r"\b(type|typing|typing_extensions|enum|Enum|IntEnum|StrEnum|Flag|IntFlag|Generic|Protocol|ABC|ABCMeta|"
    r"namedtuple|NamedTuple|TypedDict|TYPE_CHECKING|abstractmethod)\b|dataclass|overload|contextmanager"
)
UNDERSCORED = {"__init__", "__eq__", "__repr__", "__str__", "__len__"}


def files():
    return sorted(PACKAGE.glob("*.py"))


def trees():
    return [(path, ast.parse(path.read_text())) for path in files()]


def walked():
    return [(f"{path.name}:{getattr(node, 'lineno', 0)}", node) for path, tree in trees() for node in ast.walk(tree)]


def defined_methods():
    return {
        part.name
        for place, node in walked() if isinstance(node, ast.ClassDef)
        for part in node.body if isinstance(part, ast.FunctionDef)
    }


def object_values():
    return {
        node.attr for place, node in walked()
        if isinstance(node, ast.Attribute) and isinstance(node.ctx, ast.Store)
    }


def bound_names(tree):
    for node in ast.walk(tree):
        if isinstance(node, (ast.FunctionDef, ast.ClassDef)):
            yield node.name
        elif isinstance(node, ast.arg):
            yield node.arg
        elif isinstance(node, ast.Name) and isinstance(node.ctx, ast.Store):
            yield node.id
        elif isinstance(node, ast.alias):
            yield node.asname or node.name
        elif isinstance(node, ast.ExceptHandler) and node.name:
            yield node.name


class FileTest(unittest.TestCase):
    def test_only_plain_files(self):
        self.assertTrue((PACKAGE / "__init__.py").is_file())
        found = [path.name for path in PACKAGE.iterdir() if path.name != "__pycache__"]
        for name in found:
            self.assertRegex(name, r"\A(__init__|[a-z][a-z0-9_]*)\.py\Z")

    def test_signs_and_sizes(self):
        for path in files():
            text = path.read_bytes().decode("ascii")
            self.assertRegex(text, r"\A[ -~\n]*\Z")
            lines = text.split("\n")
            self.assertLessEqual(len(lines), 400)
            self.assertLessEqual(max(map(len, lines)), 120)
            self.assertIsNone(NO_WORDS.search(text), path.name)

    def test_functions_are_small(self):
        for place, node in walked():
            if isinstance(node, ast.FunctionDef):
                self.assertLessEqual(node.end_lineno - node.lineno + 1, 40, place)


class TopTest(unittest.TestCase):
    def test_statements_at_the_top(self):
        for path, tree in trees():
            self.assertIsNotNone(ast.get_docstring(tree), path.name)
            for node in tree.body[1:]:
                self.assertIsInstance(node, (ast.ImportFrom, ast.FunctionDef, ast.ClassDef, ast.Assign), path.name)

    def test_names_are_bound_once(self):
        for path, tree in trees():
            tops = [node.name for node in tree.body if isinstance(node, (ast.FunctionDef, ast.ClassDef))]
            tops += [node.targets[0].id for node in tree.body if isinstance(node, ast.Assign)]
            tops += [part.name for node in tree.body if isinstance(node, ast.ImportFrom) for part in node.names]
            self.assertEqual(len(tops), len(set(tops)), path.name)

    def test_imports(self):
        defined = {
            path.stem: {node.name for node in tree.body if isinstance(node, (ast.FunctionDef, ast.ClassDef))}
            | {node.targets[0].id for node in tree.body if isinstance(node, ast.Assign)}
            for path, tree in trees()
        }
        drawn = {path.stem: set() for path in files()}
        for path, tree in trees():
            for node in ast.walk(tree):
                if isinstance(node, ast.ImportFrom):
                    package, stem = node.module.split(".")
                    self.assertEqual((package, node.level), ("harvestgame", 0))
                    self.assertIn(node, tree.body)
                    self.assertLessEqual({part.name for part in node.names}, defined[stem])
                    drawn[path.stem].add(stem)
        while drawn:
            ends = [stem for stem in drawn if not drawn[stem] & set(drawn)]
            self.assertTrue(ends, f"these draw from one another: {sorted(drawn)}")
            drawn = {stem: drawn[stem] for stem in drawn if stem not in ends}


class LanguageTest(unittest.TestCase):
    def test_nodes(self):
        for place, node in walked():
            self.assertIsInstance(node, NODES, place)
            if isinstance(node, ast.Constant):
                self.assertTrue(node.value is None or isinstance(node.value, (bool, int, str)), place)
            if isinstance(node, ast.operator):
                self.assertNotIsInstance(node, (ast.Div, ast.MatMult), place)
            if isinstance(node, (ast.FunctionDef, ast.ClassDef)):
                self.assertEqual(node.decorator_list, [], place)
            if isinstance(node, (ast.While, ast.For)):
                self.assertEqual(node.orelse, [], place)
            if isinstance(node, ast.Try):
                self.assertEqual(node.finalbody, [], place)
            if isinstance(node, ast.ExceptHandler):
                self.assertNotIn(getattr(node.type, "id", "Exception"), ("Exception", "TypeError"), place)
            if isinstance(node, ast.Assign):
                self.assertEqual(len(node.targets), 1, place)
                self.assertNotIsInstance(node.targets[0], ast.Tuple, place)
            if isinstance(node, ast.arguments):
                self.assertEqual((node.vararg, node.kwarg, node.kwonlyargs, node.posonlyargs), (None, None, [], []))
            if isinstance(node, ast.comprehension):
                self.assertLessEqual(len(node.ifs), 1, place)
            if isinstance(node, ast.ListComp):
                self.assertEqual(len(node.generators), 1, place)

    def test_is_stands_beside_none_true_and_false(self):
        for place, node in walked():
            if isinstance(node, ast.Compare):
                for sign, other in zip(node.ops, node.comparators):
                    if isinstance(sign, (ast.Is, ast.IsNot)):
                        self.assertIsInstance(other, ast.Constant, place)

    def test_names(self):
        for path, tree in trees():
            bound = set(bound_names(tree))
            for name in bound - UNDERSCORED:
                self.assertRegex(name, r"\A[A-Za-z][A-Za-z0-9_]*\Z", path.name)
                self.assertFalse(hasattr(builtins, name), f"{path.name}: {name}")
                self.assertNotIn(name, NOT_USED)
            for node in ast.walk(tree):
                if isinstance(node, ast.Name) and isinstance(node.ctx, ast.Load):
                    self.assertIn(node.id, bound | OWN_NAMES, path.name)

    def test_locals_are_called_like_no_class_and_no_import(self):
        for path, tree in trees():
            taken = {node.name for node in tree.body if isinstance(node, ast.ClassDef)}
            taken |= {part.name for node in tree.body if isinstance(node, ast.ImportFrom) for part in node.names}
            for node in ast.walk(tree):
                if isinstance(node, ast.arg):
                    self.assertNotIn(node.arg, taken, path.name)
                if isinstance(node, ast.Name) and isinstance(node.ctx, ast.Store):
                    self.assertNotIn(node.id, taken, path.name)

    def test_python_s_own_are_called_and_not_kept(self):
        words = {"sorted": {"key", "reverse"}, "min": {"key", "default"}, "max": {"key", "default"},
                 "sum": {"start"}, "enumerate": {"start"}, "zip": {"strict"}}
        for path, tree in trees():
            called = [node.func for node in ast.walk(tree) if isinstance(node, ast.Call)]
            named = [base for node in ast.walk(tree) if isinstance(node, ast.ClassDef) for base in node.bases]
            named += [node.type for node in ast.walk(tree) if isinstance(node, ast.ExceptHandler)]
            for node in ast.walk(tree):
                if isinstance(node, ast.Name) and node.id in OWN_NAMES:
                    self.assertTrue(any(node is other for other in called + named), f"{path.name}:{node.lineno}")
                if isinstance(node, ast.Call):
                    found = {keyword.arg for keyword in node.keywords}
                    self.assertLessEqual(found, words.get(getattr(node.func, "id", ""), set()), f"{path.name}:{node.lineno}")

    def test_ranges_and_their_like_are_walked_at_once(self):
        lazy = {"range", "zip", "enumerate", "reversed", "items", "keys", "values"}
        takers = {"list", "tuple", "dict", "sorted", "sum", "any", "all", "enumerate", "zip", "min", "max"}
        for path, tree in trees():
            walked_at = [node.iter for node in ast.walk(tree) if isinstance(node, (ast.For, ast.comprehension))]
            walked_at += [
                node.args[0] for node in ast.walk(tree)
                if isinstance(node, ast.Call) and getattr(node.func, "id", "") in takers and node.args
            ]
            for node in ast.walk(tree):
                if isinstance(node, ast.Call) and getattr(node.func, "id", getattr(node.func, "attr", "")) in lazy:
                    self.assertTrue(any(node is other for other in walked_at), f"{path.name}:{node.lineno}")

    def test_what_a_loop_walks_is_not_changed_in_it(self):
        changing = {"append", "clear", "extend", "insert", "pop", "remove", "reverse", "setdefault", "update"}
        for place, loop in walked():
            if isinstance(loop, ast.For):
                names = {ast.dump(node) for node in ast.walk(loop.iter) if isinstance(node, (ast.Name, ast.Attribute))}
                for node in ast.walk(loop):
                    if isinstance(node, ast.Attribute) and node.attr in changing:
                        self.assertNotIn(ast.dump(node.value), names, place)
                    if isinstance(node, ast.Subscript) and isinstance(node.ctx, ast.Store):
                        self.assertNotIn(ast.dump(node.value), names, place)

    def test_sets_and_powers_are_not_used(self):
        for place, node in walked():
            self.assertNotIn(getattr(node, "id", ""), ("set", "frozenset", "chr"), place)
            self.assertNotIsInstance(node, ast.Pow, place)

    def test_what_stands_at_the_top_is_only_read(self):
        for path, tree in trees():
            kept = {node.targets[0].id for node in tree.body if isinstance(node, ast.Assign)}
            read = [node.value for node in ast.walk(tree) if isinstance(node, ast.Subscript)]
            read += [other for node in ast.walk(tree) if isinstance(node, ast.Compare) for other in node.comparators]
            read += [
                part for node in ast.walk(tree) if isinstance(node, ast.Call) and getattr(node.func, "id", "") in ("min", "max")
                for keyword in node.keywords for part in [keyword.value]
            ]
            for node in ast.walk(tree):
                if isinstance(node, ast.Name) and isinstance(node.ctx, ast.Load) and node.id in kept:
                    self.assertTrue(any(node is other for other in read), f"{path.name}:{node.lineno}")
                if isinstance(node, ast.Subscript) and isinstance(node.value, ast.Name) and node.value.id in kept:
                    self.assertIsInstance(node.ctx, ast.Load, f"{path.name}:{node.lineno}")

    def test_methods_and_values(self):
        methods = defined_methods()
        known = methods | object_values()
        self.assertEqual(methods & object_values(), set())
        kinds = (str, int, list, dict, set, bytes, tuple)
        for name in known - UNDERSCORED:
            self.assertFalse(any(hasattr(kind, name) for kind in kinds), name)
        for place, node in walked():
            if isinstance(node, ast.Attribute):
                self.assertIn(node.attr, known | METHODS, place)
                self.assertNotIn(node.attr, NOT_USED, place)


if __name__ == "__main__":
    unittest.main()
