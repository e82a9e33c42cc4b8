"""The package keeps to a small part of Python (L1 to L28 of LANGUAGE.md); what can be seen is held here."""

import ast
import builtins
import re
import unittest
from pathlib import Path

PACKAGE = Path(__file__).resolve().parent.parent / "thinways"
OWN_NAMES = set(
    "len range enumerate zip min max sum abs sorted reversed int str bool list tuple dict set frozenset isinstance "
    "ord repr any all divmod Exception ValueError TypeError KeyError IndexError LookupError ZeroDivisionError "
    "ArithmeticError OverflowError RuntimeError NotImplementedError AttributeError StopIteration".split()
)
METHODS = set(
    "append clear copy count endswith extend find get index insert isalnum isalpha isdigit islower isspace isupper "
    "items join keys ljust lower lstrip partition pop remove replace reverse rfind rjust rpartition rsplit rstrip "
    "setdefault split splitlines startswith strip update upper values zfill bit_length".split()
)
WORDS_OUT = re.compile(
    r"\b(type|typing|typing_extensions|enum|Enum|IntEnum|StrEnum|Flag|IntFlag|Generic|Protocol|ABC|ABCMeta|namedtuple"
    r"|NamedTuple|TypedDict|TYPE_CHECKING|abstractmethod)\b|dataclass|overload|contextmanager"
)
NAMES_OUT = set(
    "register mro elements open input version_info with_traceback add_note attrgetter breakpoint builtins compile "
    "copyright credits delattr dir eval exec exit gc getattr globals hasattr help id importlib license locals "
    "methodcaller os quit setattr super type vars sys chr print".split()
)
DOUBLE = set("__init__ __eq__ __repr__ __str__ __len__".split())
NODES = (
    ast.Module, ast.ImportFrom, ast.alias, ast.FunctionDef, ast.arguments, ast.arg, ast.ClassDef, ast.Lambda,
    ast.Assign, ast.AugAssign, ast.If, ast.While, ast.For, ast.Return, ast.Break, ast.Continue, ast.Pass, ast.Raise,
    ast.Try, ast.ExceptHandler, ast.Expr, ast.Constant, ast.List, ast.Tuple, ast.Dict, ast.Set, ast.BinOp,
    ast.UnaryOp, ast.BoolOp, ast.Compare, ast.IfExp, ast.Call, ast.keyword, ast.Attribute, ast.Subscript, ast.Slice,
    ast.ListComp, ast.comprehension, ast.JoinedStr, ast.FormattedValue, ast.Name, ast.expr_context, ast.operator,
    ast.unaryop, ast.boolop, ast.cmpop,
)
KEYWORDS = {"sorted": {"key", "reverse"}, "min": {"key", "default"}, "max": {"key", "default"}, "sum": {"start"},
            "enumerate": {"start"}, "zip": {"strict"}}
WALKED = {"zip", "enumerate", "reversed", "range"}
WALKERS = {"list", "tuple", "dict", "sorted", "sum", "any", "all", "enumerate", "zip", "min", "max"}


def files():
    return sorted(path for path in PACKAGE.rglob("*") if "__pycache__" not in path.parts)


def trees():
    return [(path, ast.parse(path.read_text("utf-8"))) for path in files()]


def called(node):
    return node.func.id if isinstance(node, ast.Call) and isinstance(node.func, ast.Name) else None


def parents_of(tree):
    return {child: node for node in ast.walk(tree) for child in ast.iter_child_nodes(node)}


def bound_names(tree):
    for node in ast.walk(tree):
        if isinstance(node, ast.Name) and isinstance(node.ctx, ast.Store):
            yield node.id
        elif isinstance(node, ast.arg):
            yield node.arg
        elif isinstance(node, ast.ExceptHandler) and node.name:
            yield node.name


class TextTest(unittest.TestCase):
    def test_files_signs_and_words(self):
        for path in files():
            self.assertRegex(path.name, r"^[a-z_0-9]+\.py$")
            if path.name != "__init__.py":
                self.assertNotIn(path.stem, dir(builtins))
                self.assertNotRegex(path.stem, r"^(test|tests|testing|test_.*|site|conftest)$")
            text = path.read_bytes().decode("ascii")
            self.assertRegex(text, r"\A[\n -~]*\Z", path.name)
            self.assertIsNone(WORDS_OUT.search(text), path.name)
            rows = text.split("\n")
            self.assertLessEqual(len(rows), 401, path.name)
            self.assertLessEqual(max(len(row) for row in rows), 120, path.name)


class TreeTest(unittest.TestCase):
    def each(self):
        for path, tree in trees():
            for node in ast.walk(tree):
                yield (path.name, getattr(node, "lineno", 0)), node

    def test_nodes(self):
        for where, node in self.each():
            self.assertIsInstance(node, NODES, where)
            self.assertNotIsInstance(node, (ast.Div, ast.MatMult), where)
            if isinstance(node, (ast.While, ast.For)):
                self.assertEqual(node.orelse, [], where)
            if isinstance(node, ast.Try):
                self.assertEqual(node.finalbody, [], where)
            if isinstance(node, ast.Assign):
                self.assertEqual(len(node.targets), 1, where)
            if isinstance(node, ast.Expr):
                # By itself stands a call, or the words at a file's top.
                at_the_top = isinstance(node.value, ast.Constant) and node.lineno == 1
                self.assertTrue(isinstance(node.value, ast.Call) or at_the_top, where)
            if isinstance(node, ast.ListComp):
                self.assertEqual(len(node.generators), 1, where)
                self.assertLessEqual(len(node.generators[0].ifs), 1, where)
            if isinstance(node, ast.Constant):
                self.assertIsInstance(node.value, (int, str, type(None)), where)
                self.assertFalse(isinstance(node.value, str) and "%" in node.value, where)
            if isinstance(node, ast.BinOp) and isinstance(node.op, ast.Pow):
                self.assertTrue(isinstance(node.right, ast.Constant) and 0 <= node.right.value <= 64, where)

    def test_imports_come_from_the_file_that_defines_the_name(self):
        tops = {path.stem: tree.body for path, tree in trees()}
        drawn = {}
        for name, body in tops.items():
            rows = [row for row in body if isinstance(row, ast.ImportFrom)]
            begin = 1 if body and isinstance(body[0], ast.Expr) else 0
            self.assertEqual(body[begin:begin + len(rows)], rows, name)
            drawn[name] = [row.module.rpartition(".")[2] for row in rows]
            for row in rows:
                self.assertEqual((row.level, row.module.partition(".")[0]), (0, "thinways"), name)
                there = tops[row.module.rpartition(".")[2]]
                defined = [item.name for item in there if isinstance(item, (ast.FunctionDef, ast.ClassDef))]
                defined += [item.targets[0].id for item in there if isinstance(item, ast.Assign)]
                for alias in row.names:
                    self.assertIn(alias.name, defined, name)
                    self.assertIsNone(alias.asname, name)
        while drawn:
            free = [name for name in drawn if not any(other in drawn for other in drawn[name])]
            self.assertTrue(free, f"files draw from one another: {sorted(drawn)}")
            drawn = {name: drawn[name] for name in drawn if name not in free}

    def test_tops(self):
        for path, tree in trees():
            self.assertIsInstance(tree.body[0].value.value, str, path.name)
            bound = []
            for item in tree.body[1:]:
                self.assertIsInstance(item, (ast.ImportFrom, ast.FunctionDef, ast.ClassDef, ast.Assign), path.name)
                if isinstance(item, ast.Assign):
                    bound.append(item.targets[0].id)
                elif isinstance(item, ast.ImportFrom):
                    bound.extend(alias.name for alias in item.names)
                else:
                    bound.append(item.name)
            self.assertEqual(len(bound), len(set(bound)), path.name)

    def test_defs(self):
        for where, node in self.each():
            if isinstance(node, (ast.FunctionDef, ast.ClassDef)):
                self.assertEqual(node.decorator_list, [], where)
            if isinstance(node, ast.FunctionDef):
                self.assertLessEqual(node.end_lineno - node.lineno + 1, 40, where)
                self.assertIsNone(node.returns, where)
            if isinstance(node, ast.arguments):
                odd = (node.vararg, node.kwarg, node.kwonlyargs, node.posonlyargs)
                self.assertEqual(odd, (None, None, [], []), where)
            if isinstance(node, ast.arg):
                self.assertIsNone(node.annotation, where)
            if isinstance(node, ast.ClassDef):
                self.assertLessEqual(len(node.bases), 1, where)
                self.assertEqual(node.keywords, [], where)
                for item in node.body:
                    self.assertIsInstance(item, (ast.FunctionDef, ast.Pass), where)

    def test_classes(self):
        classes = [node for where, node in self.each() if isinstance(node, ast.ClassDef)]
        methods = [item for node in classes for item in node.body if isinstance(item, ast.FunctionDef)]
        named = {method.name for method in methods}
        taken = {name for kind in (str, int, list, dict, set, bytes, tuple) for name in dir(kind)}
        for node in classes:
            names = [item.name for item in node.body if isinstance(item, ast.FunctionDef)]
            self.assertEqual(len(names), len(set(names)), node.name)
            self.assertTrue(all(base.id.endswith("Error") for base in node.bases), node.name)
        for method in methods:
            self.assertEqual(method.args.args[0].arg, "self", method.name)
            self.assertTrue(method.name in DOUBLE or method.name not in taken, method.name)
            for node in ast.walk(method):
                if isinstance(node, ast.Attribute) and isinstance(node.ctx, ast.Store):
                    self.assertNotIn(node.attr, named | taken, method.name)
                    self.assertIsInstance(node.value, ast.Name, method.name)
                self.assertFalse(method.name == "__init__" and isinstance(node, ast.Return), method.name)

    def test_f_strings(self):
        for where, node in self.each():
            if isinstance(node, ast.FormattedValue):
                self.assertIsInstance(node.value, ast.Name, where)
                self.assertIsNone(node.format_spec, where)

    def test_names(self):
        for path, tree in trees():
            heads = [item for item in ast.walk(tree) if isinstance(item, (ast.FunctionDef, ast.ClassDef))]
            drawn = [alias.name for item in tree.body if isinstance(item, ast.ImportFrom) for alias in item.names]
            classes = [item.name for item in heads if isinstance(item, ast.ClassDef)]
            locals_here = list(bound_names(tree))
            known = set(locals_here) | {head.name for head in heads} | set(drawn) | OWN_NAMES
            for name in locals_here + [head.name for head in heads]:
                self.assertTrue(name in DOUBLE or not name.startswith("_"), (path.name, name))
                self.assertNotIn(name, NAMES_OUT, path.name)
            for name in locals_here:
                self.assertNotIn(name, drawn + classes + dir(builtins), path.name)
            for node in ast.walk(tree):
                if isinstance(node, ast.Name):
                    self.assertIn(node.id, known, path.name)
                if isinstance(node, ast.Attribute):
                    self.assertNotIn(node.attr, NAMES_OUT, path.name)

    def test_calls(self):
        own = {head.name for path, tree in trees() for head in ast.walk(tree) if isinstance(head, ast.FunctionDef)}
        for where, node in self.each():
            if isinstance(node, ast.Call):
                for keyword in node.keywords:
                    self.assertTrue(keyword.arg in KEYWORDS.get(called(node), ()) or called(node) in own, where)
                if isinstance(node.func, ast.Attribute):
                    self.assertIn(node.func.attr, METHODS | own, where)
            if isinstance(node, ast.Compare) and any(isinstance(op, (ast.Is, ast.IsNot)) for op in node.ops):
                self.assertIsInstance(node.comparators[0], ast.Constant, where)

    def test_walked_on_the_spot_and_no_set_kept(self):
        for path, tree in trees():
            above = parents_of(tree)
            for node in ast.walk(tree):
                up = above.get(node)
                if called(node) in WALKED:
                    walked = isinstance(up, (ast.For, ast.comprehension)) or called(up) in WALKERS
                    self.assertTrue(walked, (path.name, node.lineno))
                if called(node) in ("set", "frozenset"):
                    spot = isinstance(up, (ast.Compare, ast.BinOp)) or called(up) in ("sorted", "len")
                    self.assertTrue(spot, (path.name, node.lineno))


if __name__ == "__main__":
    unittest.main()
