"""Looks the package's files through for the rules of LANGUAGE.md that can be told from the text alone."""

import ast
import builtins
import re
import unittest
from pathlib import Path

PACKAGE = Path(__file__).resolve().parent.parent / "heirbook"

OWN_NAMES = set(
    "len range enumerate zip min max sum abs sorted reversed int str bool list tuple dict set frozenset isinstance ord "
    "repr any all divmod Exception ValueError TypeError KeyError IndexError LookupError ZeroDivisionError "
    "ArithmeticError OverflowError RuntimeError NotImplementedError AttributeError StopIteration".split()
)
OWN_METHODS = set(
    "append clear copy count endswith extend find get index insert isalnum isalpha isdigit islower isspace isupper "
    "items join keys ljust lower lstrip partition pop remove replace reverse rfind rjust rpartition rsplit rstrip "
    "setdefault split splitlines startswith strip update upper values zfill bit_length".split()
)
CLASS_METHODS = ("__init__", "__eq__", "__repr__", "__str__", "__len__")
NODES = (
    ast.Module, ast.Expr, ast.ImportFrom, ast.alias, ast.FunctionDef, ast.Lambda, ast.arguments, ast.arg, ast.ClassDef,
    ast.Assign, ast.AugAssign, ast.If, ast.While, ast.For, ast.Return, ast.Break, ast.Continue, ast.Pass, ast.Raise,
    ast.Try, ast.ExceptHandler, ast.Name, ast.Constant, ast.List, ast.Tuple, ast.Dict, ast.Set, ast.BinOp, ast.UnaryOp,
    ast.BoolOp, ast.Compare, ast.IfExp, ast.Call, ast.keyword, ast.Attribute, ast.Subscript, ast.Slice, ast.ListComp,
    ast.comprehension, ast.JoinedStr, ast.FormattedValue, ast.operator, ast.unaryop, ast.boolop, ast.cmpop,
    ast.expr_context,
)
BARRED_WORDS = re.compile(
    r"\b(type|typing|typing_extensions|enum|Enum|IntEnum|StrEnum|Flag|IntFlag|Generic|Protocol|ABC|ABCMeta|namedtuple"
    r"|NamedTuple|TypedDict|TYPE_CHECKING|abstractmethod)\b|dataclass|overload|contextmanager"
)
BARRED_NAMES = set("register mro elements open input version_info with_traceback add_note".split())
BARRED_ATTRIBUTES = BARRED_NAMES | {"format", "format_map", "sort", "args", "encode"}


def files():
    return sorted(path for path in PACKAGE.rglob("*") if path.is_file() and "__pycache__" not in path.parts)


def nodes():
    for path in files():
        for node in ast.walk(ast.parse(path.read_text(encoding="utf-8"))):
            yield f"{path.name}:{getattr(node, 'lineno', '?')}", node


def own_methods():
    return {part.name for where, node in nodes() if isinstance(node, ast.ClassDef)
            for part in node.body if isinstance(part, ast.FunctionDef)}


def bound_names(node):
    if isinstance(node, ast.Name) and isinstance(node.ctx, ast.Store):
        return [node.id]
    if isinstance(node, ast.arg):
        return [node.arg]
    if isinstance(node, (ast.FunctionDef, ast.ClassDef)):
        return [node.name]
    if isinstance(node, ast.ExceptHandler) and node.name:
        return [node.name]
    return []


def imports_of(path):
    """Pairs of the file that is drawn from and the name."""
    tree = ast.parse(path.read_text(encoding="utf-8"))
    return [(node.module.split(".")[1] + ".py", part.asname or part.name)
            for node in tree.body if isinstance(node, ast.ImportFrom) for part in node.names]


def defined_in(path):
    """The names that a file's top gives itself, each as often as it does."""
    names = []
    for node in ast.parse(path.read_text(encoding="utf-8")).body:
        if isinstance(node, (ast.FunctionDef, ast.ClassDef)):
            names.append(node.name)
        if isinstance(node, ast.Assign):
            names.extend(target.id for target in node.targets)
    return names


def values_of_objects():
    return {node.attr for where, node in nodes() if isinstance(node, ast.Attribute) and isinstance(node.ctx, ast.Store)}


class FilesTest(unittest.TestCase):
    def test_names_signs_and_sizes(self):
        self.assertIn(PACKAGE / "__init__.py", files())
        for path in files():
            self.assertRegex(path.name, r"\A([a-z][a-z0-9_]*|__init__|__main__)\.py\Z")
            text = path.read_text(encoding="utf-8")
            self.assertRegex(text, r"\A[\n -~]*\Z", path.name)
            self.assertLessEqual(len(text.splitlines()), 400, path.name)
            self.assertIsNone(BARRED_WORDS.search(text), path.name)
            for row in text.splitlines():
                self.assertLessEqual(len(row), 120, path.name)

    def test_the_top_of_a_module(self):
        for path in files():
            for number, node in enumerate(ast.parse(path.read_text(encoding="utf-8")).body):
                docstring = number == 0 and isinstance(node, ast.Expr) and isinstance(node.value, ast.Constant)
                plain = isinstance(node, (ast.ImportFrom, ast.FunctionDef, ast.ClassDef, ast.Assign))
                self.assertTrue(docstring or plain, f"{path.name}:{node.lineno}")

    def test_each_name_once_and_from_the_file_that_defines_it(self):
        for path in files():
            names = defined_in(path) + [name for drawn, name in imports_of(path)]
            self.assertEqual(len(names), len(set(names)), path.name)
            for drawn, name in imports_of(path):
                self.assertIn(name, defined_in(PACKAGE / drawn), path.name)

    def test_no_two_files_draw_from_one_another(self):
        drawn = {path.name: {name for name, part in imports_of(path)} for path in files()}
        for turn in drawn:
            for name in drawn:
                drawn[name] = drawn[name].union(*[drawn[other] for other in drawn[name]])
        for name in drawn:
            self.assertNotIn(name, drawn[name])

    def test_no_local_is_called_like_a_class_or_an_import(self):
        for path in files():
            tree = ast.parse(path.read_text(encoding="utf-8"))
            barred = {name for drawn, name in imports_of(path)}
            barred |= {node.name for node in tree.body if isinstance(node, ast.ClassDef)}
            for node in ast.walk(tree):
                if not isinstance(node, ast.ClassDef):
                    self.assertEqual(set(bound_names(node)) & barred, set(), path.name)


class NodesTest(unittest.TestCase):
    def test_only_the_small_part(self):
        for where, node in nodes():
            self.assertIsInstance(node, NODES, where)
            self.assertNotIsInstance(node, (ast.Div, ast.MatMult), where)
            if isinstance(node, ast.Constant):
                self.assertNotIsInstance(node.value, (float, complex, bytes), where)
                self.assertNotIn("%", str(node.value), where)

    def test_imports(self):
        for where, node in nodes():
            if isinstance(node, ast.ImportFrom):
                self.assertEqual(node.level, 0, where)
                self.assertRegex(node.module, r"\Aheirbook\.", where)
                self.assertNotIn("*", [part.name for part in node.names], where)

    def test_defs_and_classes(self):
        for where, node in nodes():
            if isinstance(node, ast.FunctionDef):
                self.assertLessEqual(node.end_lineno - node.lineno + 1, 40, where)
            if isinstance(node, (ast.FunctionDef, ast.ClassDef)):
                self.assertEqual(node.decorator_list, [], where)
            if isinstance(node, ast.arguments):
                self.assertEqual((node.vararg, node.kwarg, node.kwonlyargs, node.posonlyargs), (None, None, [], []), where)
            if isinstance(node, ast.ClassDef):
                self.assertLessEqual(len(node.bases) + len(node.keywords), 1, where)

    def test_statements(self):
        for where, node in nodes():
            if isinstance(node, ast.Assign):
                self.assertEqual(len(node.targets), 1, where)
            if isinstance(node, (ast.For, ast.While)):
                self.assertEqual(node.orelse, [], where)
            if isinstance(node, ast.Try):
                self.assertEqual(node.finalbody, [], where)
            if isinstance(node, ast.FormattedValue):
                self.assertIsInstance(node.value, ast.Name, where)
                self.assertIsNone(node.format_spec, where)
            if isinstance(node, ast.ListComp):
                self.assertEqual(len(node.generators), 1, where)
                self.assertLessEqual(len(node.generators[0].ifs), 1, where)

    def test_is_stands_beside_none_and_truths(self):
        for where, node in nodes():
            if isinstance(node, ast.Compare):
                for operator, right in zip(node.ops, node.comparators):
                    if isinstance(operator, (ast.Is, ast.IsNot)):
                        self.assertIsInstance(right, ast.Constant, where)
                        self.assertIn(right.value, (None, True, False), where)


def with_parents():
    """Each node with the one it stands in."""
    for path in files():
        for parent in ast.walk(ast.parse(path.read_text(encoding="utf-8"))):
            for node in ast.iter_child_nodes(parent):
                yield f"{path.name}:{getattr(node, 'lineno', '?')}", parent, node


def called(node):
    """The name of the function or method that a call calls, else None."""
    if not isinstance(node, ast.Call):
        return None
    return node.func.id if isinstance(node.func, ast.Name) else getattr(node.func, "attr", None)


class ValuesTest(unittest.TestCase):
    def test_lists_and_dicts_of_a_file_s_top_hold_no_lists_and_dicts(self):
        for path in files():
            for node in ast.parse(path.read_text(encoding="utf-8")).body:
                if isinstance(node, ast.Assign):
                    inner = [part for part in ast.walk(node.value) if part is not node.value]
                    self.assertFalse([part for part in inner if isinstance(part, (ast.List, ast.Dict, ast.Set))], path.name)
                    self.assertFalse([part for part in inner + [node.value] if isinstance(part, ast.Call)], path.name)

    def test_walked_at_once(self):
        walkers = {"list", "tuple", "dict", "sorted", "sum", "any", "all", "enumerate", "zip", "min", "max", "join"}
        for where, parent, node in with_parents():
            if called(node) in ("zip", "enumerate", "reversed", "range", "items", "keys", "values"):
                walked = isinstance(parent, (ast.For, ast.comprehension)) and parent.iter is node
                self.assertTrue(walked or (called(parent) in walkers and parent.args[0] is node), where)

    def test_sets(self):
        for where, parent, node in with_parents():
            self.assertNotIsInstance(node, ast.Set, where)
            if called(node) in ("set", "frozenset"):
                self.assertTrue(called(parent) in ("len", "sorted") or isinstance(parent, ast.Compare), where)

    def test_keywords_and_errors(self):
        for where, node in nodes():
            if isinstance(node, ast.Call):
                for keyword in node.keywords:
                    self.assertIn((called(node), keyword.arg), (("sorted", "key"), ("min", "key"), ("max", "key")), where)
            if isinstance(node, ast.Raise):
                self.assertIsInstance(node.exc, ast.Call, where)
            if isinstance(node, ast.ExceptHandler):
                self.assertIsInstance(node.type, ast.Name, where)
                self.assertNotIn(node.type.id, ("Exception", "TypeError", "ValueError", "LookupError", "IndexError"), where)

    def test_methods_are_called_where_they_stand(self):
        methods = OWN_METHODS | own_methods()
        for where, parent, node in with_parents():
            if isinstance(node, ast.Attribute) and node.attr in methods:
                self.assertTrue(isinstance(parent, ast.Call) and parent.func is node, f"{where} {node.attr}")

    def test_classes_are_called_or_asked_for(self):
        classes = {node.name for where, node in nodes() if isinstance(node, ast.ClassDef)}
        for where, parent, node in with_parents():
            if isinstance(node, ast.Name) and node.id in classes:
                base = isinstance(parent, (ast.ClassDef, ast.ExceptHandler))
                call = isinstance(parent, ast.Call) and (parent.func is node or called(parent) == "isinstance")
                self.assertTrue(base or call, where)


class NamesTest(unittest.TestCase):
    def test_bound_names_are_plain(self):
        for where, node in nodes():
            for name in bound_names(node):
                if name not in CLASS_METHODS:
                    self.assertRegex(name, r"\A[A-Za-z][A-Za-z0-9_]*\Z", where)
                    self.assertNotIn(name, BARRED_NAMES, where)

    def test_python_s_own_names(self):
        methods = own_methods()
        for where, node in nodes():
            if isinstance(node, ast.Name):
                self.assertTrue(node.id in OWN_NAMES or not hasattr(builtins, node.id), f"{where} {node.id}")
            for name in bound_names(node):
                self.assertTrue(name in methods or not hasattr(builtins, name), f"{where} {name}")

    def test_own_methods_and_values(self):
        taken = {name for kind in (str, int, list, dict, set, frozenset, bytes) for name in dir(kind)}
        self.assertEqual((own_methods() - set(CLASS_METHODS)) & (taken - OWN_METHODS - {"add", "discard"}), set())
        self.assertEqual(values_of_objects() & taken, set())
        self.assertEqual(values_of_objects() & own_methods(), set())

    def test_methods(self):
        known = OWN_METHODS | own_methods() | set(CLASS_METHODS) | {"add", "discard"}
        for where, node in nodes():
            if isinstance(node, ast.Attribute):
                self.assertNotIn(node.attr, BARRED_ATTRIBUTES, where)
            if isinstance(node, ast.Call) and isinstance(node.func, ast.Attribute):
                self.assertIn(node.func.attr, known, where)


if __name__ == "__main__":
    unittest.main()
