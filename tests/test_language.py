"""The package's files keep to the small part of Python that it is written in.

Held here are the rules that a look at the parsed file can tell for sure; the
numbers are those of LANGUAGE.md.
"""

import ast
import builtins
import pathlib
import re
import unittest

PACKAGE = pathlib.Path(__file__).resolve().parent.parent / "onecurve"
NODES = """Module Import ImportFrom alias FunctionDef ClassDef arguments arg Assign AugAssign If
While For Return Break Continue Pass Raise Try ExceptHandler Expr Call keyword Lambda
Constant List Tuple Dict Set Name Attribute Subscript Slice Load Store UnaryOp BinOp BoolOp
Compare IfExp ListComp comprehension JoinedStr FormattedValue And Or Not USub UAdd Invert Add
Sub Mult FloorDiv Mod Pow BitAnd BitOr BitXor LShift RShift Eq NotEq Lt LtE Gt GtE Is IsNot
In NotIn""".split()
OWN_NAMES = """len range enumerate zip min max sum abs sorted reversed int str bool list tuple dict
set frozenset isinstance ord repr any all divmod Exception ValueError TypeError KeyError IndexError
LookupError ZeroDivisionError ArithmeticError OverflowError RuntimeError NotImplementedError
StopIteration""".split()
METHODS = """append clear copy count endswith extend find get index insert isalnum isalpha isdigit
islower isspace isupper items join keys ljust lower lstrip partition pop remove replace reverse
rfind rjust rpartition rsplit rstrip setdefault split splitlines startswith strip update upper
values zfill bit_length""".split()
WORDS = re.compile(r"\b(type|typing|typing_extensions|enum|Enum|IntEnum|StrEnum|Flag|IntFlag|Generic"
                   r"|Protocol|ABC|ABCMeta|namedtuple|NamedTuple|TypedDict|TYPE_CHECKING"
                   r"|abstractmethod)\b|dataclass|overload|contextmanager")


def files():
    return sorted(path for path in PACKAGE.iterdir() if path.name != "__pycache__")


def trees():
    for path in files():
        yield path.name, ast.parse(path.read_text())


def walked():
    for name, tree in trees():
        for node in ast.walk(tree):
            yield "%s:%s" % (name, getattr(node, "lineno", 0)), node


def bound_in(tree):
    names = set()
    for node in ast.walk(tree):
        if isinstance(node, (ast.FunctionDef, ast.ClassDef)):
            names.add(node.name)
        elif isinstance(node, ast.Name) and isinstance(node.ctx, ast.Store):
            names.add(node.id)
        elif isinstance(node, ast.arg):
            names.add(node.arg)
        elif isinstance(node, ast.alias):
            names.add(node.name)
        elif isinstance(node, ast.ExceptHandler) and node.name:
            names.add(node.name)
    return names


class Language(unittest.TestCase):
    def test_files(self):  # L1, L14
        self.assertIn("__init__.py", [path.name for path in files()])
        for path in files():
            self.assertRegex(path.name, r"^(__init__|__main__|[a-z][a-z0-9_]*)\.py$")

    def test_rows_and_signs(self):  # L10, L14, L17, L27
        for path in files():
            text = path.read_text()
            self.assertRegex(text, r"\A[\n -~]*\Z", path.name)
            self.assertIsNone(WORDS.search(text), path.name)
            rows = text.split("\n")
            self.assertLessEqual(len(rows), 400)
            self.assertLessEqual(max(len(row) for row in rows), 120)

    def test_nodes(self):  # L6, L7
        for spot, node in walked():
            self.assertIn(type(node).__name__, NODES + ["Index"], spot)

    def test_functions(self):  # L4, L10, L21
        for spot, node in walked():
            if isinstance(node, ast.FunctionDef):
                self.assertLessEqual(node.end_lineno - node.lineno + 1, 40, spot)
                self.assertEqual(node.decorator_list, [], spot)
                self.assertIsNone(node.returns, spot)
                told = node.args
                self.assertFalse(told.vararg or told.kwarg or told.kwonlyargs or told.posonlyargs, spot)

    def test_one_target_and_no_else_behind_a_loop(self):  # L6
        for spot, node in walked():
            if isinstance(node, ast.Assign):
                self.assertEqual(len(node.targets), 1, spot)
                self.assertNotIsInstance(node.targets[0], (ast.Tuple, ast.List), spot)
            if isinstance(node, (ast.For, ast.While)):
                self.assertEqual(node.orelse, [], spot)
            if isinstance(node, ast.Try):
                self.assertEqual(node.finalbody, [], spot)

    def test_values(self):  # L7, L20, L27
        for spot, node in walked():
            if isinstance(node, ast.Constant):
                self.assertIsInstance(node.value, (int, str, type(None)), spot)
                if isinstance(node.value, str):
                    self.assertNotIn("%", node.value, spot)
            if isinstance(node, ast.BinOp) and isinstance(node.op, ast.Pow):
                self.assertIsInstance(node.right, ast.Constant, spot)
                self.assertIn(node.right.value, range(65), spot)
            if isinstance(node, ast.Compare) and isinstance(node.ops[0], (ast.Is, ast.IsNot)):
                self.assertIsInstance(node.comparators[0], ast.Constant, spot)

    def test_names(self):  # L8, L12, L15, L17, L25
        for name, tree in trees():
            bound = bound_in(tree)
            for own in bound:
                self.assertNotIn(own, vars(builtins), name)
                self.assertRegex(own, r"^([A-Za-z][A-Za-z0-9_]*|__init__)$", name)
            methods = [node.name for node in ast.walk(tree) if isinstance(node, ast.FunctionDef)]
            for node in ast.walk(tree):
                if isinstance(node, ast.Name):
                    self.assertIn(node.id, list(bound) + OWN_NAMES, name)
                if isinstance(node, ast.Call) and isinstance(node.func, ast.Attribute):
                    self.assertIn(node.func.attr, METHODS + methods + ["__init__"], name)

    def test_python_own_calls_have_few_keywords(self):  # L22
        for spot, node in walked():
            if isinstance(node, ast.Call) and isinstance(node.func, ast.Name):
                if node.func.id in vars(builtins):
                    for word in node.keywords:
                        self.assertIn(word.arg, ("key", "reverse", "default", "start", "strict"), spot)

    def test_sets_stand_where_they_may(self):  # L24
        for spot, node in walked():
            if isinstance(node, ast.Assign) or isinstance(node, ast.Return):
                self.assertFalse(isinstance(node.value, ast.Call) and isinstance(node.value.func, ast.Name)
                                 and node.value.func.id in ("set", "frozenset"), spot)

    def test_walks_are_not_kept(self):  # L23
        for spot, node in walked():
            if isinstance(node, ast.Assign) or isinstance(node, ast.Return):
                self.assertFalse(isinstance(node.value, ast.Call) and isinstance(node.value.func, ast.Name)
                                 and node.value.func.id in ("zip", "enumerate", "reversed", "range"), spot)

    def test_locals_bear_no_name_of_the_files_top(self):  # L15
        for name, tree in trees():
            top = [node.name for node in tree.body if isinstance(node, (ast.FunctionDef, ast.ClassDef))]
            for node in tree.body:
                if isinstance(node, ast.ImportFrom):
                    top += [each.name for each in node.names]
                if isinstance(node, ast.Assign):
                    top += [each.id for each in node.targets]
            self.assertEqual(len(top), len(set(top)), name)
            for node in tree.body:
                if isinstance(node, ast.FunctionDef):
                    within = bound_in(ast.Module(node.body, [])) | {each.arg for each in node.args.args}
                    self.assertEqual(within & set(top), set(), "%s:%s" % (name, node.name))

    def test_imports(self):  # L2, L16
        drawn = {}
        for name, tree in trees():
            drawn[name[:-3]] = []
            for node in tree.body:
                if isinstance(node, ast.ImportFrom):
                    self.assertRegex(node.module, r"^onecurve\.[a-z_]+$", name)
                    drawn[name[:-3]].append(node.module.partition(".")[2])
                    for each in node.names:
                        self.assertIsNone(each.asname, name)
            deep = [node for node in ast.walk(tree) if isinstance(node, (ast.Import, ast.ImportFrom))]
            self.assertEqual([node for node in deep if node not in tree.body], [], name)
        self.assertEqual(drawn["__init__"], [])
        while drawn:
            free = [name for name in drawn if not any(other in drawn for other in drawn[name])]
            self.assertTrue(free, "files draw from one another: %s" % sorted(drawn))
            drawn = {name: drawn[name] for name in drawn if name not in free}

    def test_names_are_drawn_from_the_file_that_defines_them(self):  # L16
        made = {name[:-3]: [node.name for node in tree.body if isinstance(node, (ast.FunctionDef, ast.ClassDef))]
                + [each.id for node in tree.body if isinstance(node, ast.Assign) for each in node.targets]
                for name, tree in trees()}
        for spot, node in walked():
            if isinstance(node, ast.ImportFrom):
                for each in node.names:
                    self.assertIn(each.name, made[node.module.partition(".")[2]], spot)


if __name__ == "__main__":
    unittest.main()
