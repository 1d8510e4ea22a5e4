"""The package keeps to its part of Python, as far as a look at each file can tell."""

import ast
import builtins
import pathlib
import re
import unittest

PACKAGE = pathlib.Path(__file__).resolve().parent.parent / "rowpipes"
FILES = sorted(PACKAGE.glob("*.py"))

OWN_NAMES = set(
    "len range enumerate zip min max sum abs sorted reversed int str bool bytes list tuple dict set frozenset "
    "isinstance ord repr any all divmod Exception ValueError TypeError KeyError IndexError LookupError "
    "ZeroDivisionError ArithmeticError OverflowError RuntimeError NotImplementedError AttributeError "
    "StopIteration".split())
METHODS = set(
    "append clear copy count endswith extend find get index insert isalnum isalpha isdigit islower isspace isupper "
    "items join keys ljust lower lstrip partition pop remove replace reverse rfind rjust rpartition rsplit rstrip "
    "setdefault split splitlines startswith strip update upper values zfill bit_length removeprefix removesuffix "
    "rindex sort add discard __init__".split())
WORDS_OUT = re.compile(
    r"\b(type|typing|typing_extensions|enum|Enum|IntEnum|StrEnum|Flag|IntFlag|Generic|Protocol|ABC|ABCMeta|"
    r"namedtuple|NamedTuple|TypedDict|TYPE_CHECKING|abstractmethod)\b|dataclass|overload|contextmanager")
NAMES_OUT = set(
    "register mro elements open input version_info with_traceback add_note attrgetter breakpoint builtins compile "
    "copyright credits delattr dir eval exec exit gc getattr globals hasattr help id importlib license locals "
    "methodcaller os quit setattr super type vars sys chr print format format_map".split())
NODES_OUT = (
    ast.With, ast.Match, ast.Global, ast.Nonlocal, ast.Yield, ast.YieldFrom, ast.Await, ast.AsyncFor, ast.AsyncWith,
    ast.AsyncFunctionDef, ast.GeneratorExp, ast.NamedExpr, ast.Div, ast.MatMult, ast.Import, ast.Starred)


def nodes(file):
    return ast.walk(ast.parse(file.read_text()))


class Language(unittest.TestCase):
    def test_nothing_else_lies_in_the_package(self):
        self.assertIn("__init__.py", [file.name for file in FILES])
        others = [entry.name for entry in PACKAGE.iterdir() if entry not in FILES]
        self.assertIn(others, ([], ["__pycache__"]))
        for file in FILES:
            self.assertRegex(file.name, r"^(__init__|[a-z][a-z0-9_]*)\.py$")

    def test_signs_and_sizes(self):
        for file in FILES:
            text = file.read_text()
            self.assertRegex(text, r"\A[ -~\n]*\Z", file.name)
            self.assertIsNone(WORDS_OUT.search(text), file.name)
            rows = text.split("\n")
            self.assertLessEqual(len(rows), 400, file.name)
            self.assertLessEqual(max(len(row) for row in rows), 120, file.name)

    def test_defs_are_short_and_plain(self):
        for file in FILES:
            for node in nodes(file):
                if isinstance(node, ast.FunctionDef):
                    self.assertLessEqual(node.end_lineno - node.lineno + 1, 40, (file.name, node.name))
                    plain = node.args
                    self.assertEqual((plain.vararg, plain.kwarg, plain.posonlyargs), (None, None, []))
                if isinstance(node, (ast.FunctionDef, ast.ClassDef)):
                    self.assertEqual(node.decorator_list, [], (file.name, node.name))

    def test_imports(self):
        for file in FILES:
            for node in nodes(file):
                if isinstance(node, ast.ImportFrom):
                    self.assertEqual(node.level, 0)
                    self.assertRegex(node.module, r"^rowpipes\.[a-z]+$")
                    home = ast.parse((PACKAGE / (node.module.split(".")[1] + ".py")).read_text())
                    for drawn in node.names:
                        self.assertIn(drawn.name, bound_at_top(home), file.name)

    def test_no_other_form(self):
        for file in FILES:
            for node in nodes(file):
                self.assertNotIsInstance(node, NODES_OUT, (file.name, getattr(node, "lineno", None)))
                if isinstance(node, ast.Constant):
                    self.assertNotIsInstance(node.value, (float, complex), file.name)
                    self.assertFalse(isinstance(node.value, str) and "%" in node.value, file.name)
                if isinstance(node, (ast.For, ast.While)):
                    self.assertEqual(node.orelse, [], (file.name, node.lineno))
                if isinstance(node, ast.Compare):
                    for sign, right in zip(node.ops, node.comparators):
                        if isinstance(sign, (ast.Is, ast.IsNot)):
                            self.assertIn(getattr(right, "value", 0), (None, True, False), (file.name, node.lineno))

    def test_names(self):
        for file in FILES:
            for node in nodes(file):
                for name in names_in(node):
                    self.assertNotIn(name, NAMES_OUT, file.name)
                    self.assertTrue(name == "__init__" or not name.startswith("_"), (file.name, name))
                if isinstance(node, ast.Name) and isinstance(node.ctx, ast.Store) or isinstance(node, ast.arg):
                    self.assertFalse(hasattr(builtins, names_in(node)[0]), (file.name, names_in(node)))
                if isinstance(node, ast.Name) and hasattr(builtins, node.id):
                    self.assertIn(node.id, OWN_NAMES, file.name)
                if isinstance(node, ast.Call) and isinstance(node.func, ast.Attribute):
                    self.assertIn(node.func.attr, METHODS, file.name)

    def test_each_name_is_bound_once_at_the_top(self):
        for file in FILES:
            bound = bound_at_top(ast.parse(file.read_text()), drawn_too=True)
            self.assertEqual(len(bound), len(set(bound)), file.name)

    def test_no_local_is_called_like_an_import_or_a_class(self):
        for file in FILES:
            tree = ast.parse(file.read_text())
            taken = {node.name for node in tree.body if isinstance(node, ast.ClassDef)}
            taken |= {drawn.name for node in tree.body if isinstance(node, ast.ImportFrom) for drawn in node.names}
            for node in ast.walk(tree):
                if isinstance(node, ast.arg):
                    self.assertNotIn(node.arg, taken, file.name)
                if isinstance(node, ast.Name) and isinstance(node.ctx, ast.Store):
                    self.assertNotIn(node.id, taken, file.name)

    def test_sets_are_made_where_they_may_be(self):
        for file in FILES:
            for node in nodes(file):
                for inner in ast.iter_child_nodes(node):
                    if is_set(inner):
                        self.assertTrue(may_hold_set(node), (file.name, inner.lineno))


def is_set(node):
    if isinstance(node, ast.Call) and isinstance(node.func, ast.Name):
        return node.func.id in ("set", "frozenset")
    return isinstance(node, (ast.Set, ast.SetComp))


def may_hold_set(node):
    """Whether the node is sorted(..) or len(..), a comparison, a sign between sets, or a plain local's row."""
    if isinstance(node, ast.Call):
        return isinstance(node.func, ast.Name) and node.func.id in ("sorted", "len")
    if isinstance(node, ast.Assign):
        return len(node.targets) == 1 and isinstance(node.targets[0], ast.Name)
    return isinstance(node, (ast.Compare, ast.BinOp))


def names_in(node):
    if isinstance(node, ast.Name):
        return [node.id]
    if isinstance(node, ast.Attribute):
        return [node.attr]
    if isinstance(node, (ast.FunctionDef, ast.ClassDef)):
        return [node.name]
    if isinstance(node, ast.arg):
        return [node.arg]
    return []


def bound_at_top(tree, drawn_too=False):
    bound = []
    for node in tree.body:
        if isinstance(node, (ast.FunctionDef, ast.ClassDef)):
            bound.append(node.name)
        if isinstance(node, ast.Assign):
            bound.extend(target.id for target in node.targets)
        if drawn_too and isinstance(node, ast.ImportFrom):
            bound.extend(drawn.name for drawn in node.names)
    return bound


if __name__ == "__main__":
    unittest.main()
