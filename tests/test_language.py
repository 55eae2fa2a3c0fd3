"""The package keeps to its small part of Python: what of LANGUAGE.md a walk over the code can see."""

import ast
import builtins
import re
import unittest
from pathlib import Path

PACKAGE = Path(__file__).resolve().parent.parent / "whenrows"

BUILT_IN = set("""
    len range enumerate zip min max sum abs sorted reversed int str bool list tuple dict set frozenset isinstance ord
    repr any all divmod Exception ValueError TypeError KeyError IndexError LookupError ZeroDivisionError
    ArithmeticError OverflowError RuntimeError NotImplementedError AttributeError StopIteration
""".split())

METHODS = set("""
    append clear copy count endswith extend find get index insert isalnum isalpha isdigit islower isspace isupper items
    join keys ljust lower lstrip partition pop remove replace reverse rfind rjust rpartition rsplit rstrip setdefault
    split splitlines startswith strip update upper values zfill bit_length
""".split())

WORDS = set("""
    type typing typing_extensions enum Enum IntEnum StrEnum Flag IntFlag Generic Protocol ABC ABCMeta namedtuple
    NamedTuple TypedDict TYPE_CHECKING abstractmethod
""".split())

NAMES_OUT = set("""
    register mro elements open input version_info with_traceback add_note attrgetter breakpoint builtins compile
    copyright credits delattr dir eval exec exit gc getattr globals hasattr help id importlib license locals
    methodcaller os quit setattr super type vars sys
""".split())

ALLOWED = tuple(getattr(ast, name) for name in """
    Module FunctionDef ClassDef arguments arg keyword alias ImportFrom Assign AugAssign If While For Return Break
    Continue Pass Raise Try ExceptHandler Expr Constant List Tuple Dict Set BinOp UnaryOp BoolOp Compare IfExp Call
    Attribute Subscript Slice ListComp comprehension Name Lambda JoinedStr FormattedValue Load Store
    Add Sub Mult FloorDiv Mod Pow BitAnd BitOr BitXor LShift RShift Invert USub UAdd Not And Or
    Eq NotEq Lt LtE Gt GtE Is IsNot In NotIn
""".split())

# What an object's methods may be called though Python's own values have such methods, beside those of METHODS.
METHODS_TOO = {"add", "discard"}
VALUES_TOO = set("count index title find get join lower upper split strip copy add".split())
PYTHONS_OWN = {name for value in ("", 0, [], {}, set(), b"") for name in dir(value) if not name.startswith("__")}

OWN_UNDERSCORES = ("__init__", "__eq__", "__repr__", "__str__", "__len__")
FILES = sorted(path for path in PACKAGE.rglob("*") if "__pycache__" not in path.parts)
TREES = {path: ast.parse(path.read_text(encoding="ascii")) for path in FILES}


def nodes(kind):
    return [(path, node) for path, tree in TREES.items() for node in ast.walk(tree) if isinstance(node, kind)]


def bound_names(tree):
    names = set()
    for node in ast.walk(tree):
        if isinstance(node, (ast.FunctionDef, ast.ClassDef)):
            names.add(node.name)
        elif isinstance(node, ast.arg):
            names.add(node.arg)
        elif isinstance(node, ast.alias):
            names.add(node.asname or node.name)
        elif isinstance(node, ast.Name) and isinstance(node.ctx, ast.Store):
            names.add(node.id)
        elif isinstance(node, ast.ExceptHandler) and node.name:
            names.add(node.name)
    return names


def defined_at_top(tree):
    names = {node.name for node in tree.body if isinstance(node, (ast.FunctionDef, ast.ClassDef))}
    for node in tree.body:
        if isinstance(node, ast.Assign):
            names.update(target.id for target in node.targets)
    return names


def module_path(name):
    return PACKAGE.parent / (name.replace(".", "/") + ".py")


def own_values():
    return {node.attr for path, node in nodes(ast.Attribute) if isinstance(node.ctx, ast.Store)}


def own_methods(node):
    return [method.name for method in node.body if isinstance(method, ast.FunctionDef)]


def own_members():
    return own_values().union(*[own_methods(node) for path, node in nodes(ast.ClassDef)])


def called(node):
    """The name of what is called straight by its name, or None."""
    return node.func.id if isinstance(node, ast.Call) and isinstance(node.func, ast.Name) else None


def sets_in_place(tree):
    """The calls of set(..) that stand where a set may: in sorted(..) or len(..), beside in, == or !=."""
    places = []
    for node in ast.walk(tree):
        if called(node) in ("sorted", "len") and not node.keywords:
            places.extend(node.args)
        if isinstance(node, ast.Compare) and isinstance(node.ops[0], (ast.In, ast.NotIn, ast.Eq, ast.NotEq)):
            places.extend([node.left] + node.comparators)
    found = []
    while places:
        place = places.pop()
        if isinstance(place, ast.BinOp):
            places.extend([place.left, place.right])
        if called(place) == "set":
            found.append(place)
    return found


def kept_at_top(tree):
    """The names that stand for a list or dict at a file's top."""
    kept = [node for node in tree.body if isinstance(node, ast.Assign) and isinstance(node.value, (ast.List, ast.Dict))]
    return {node.targets[0].id for node in kept}


def only_read(tree):
    """The names that stand where a list or dict is only read: at an index, behind in, walked, copied, asked."""
    places = []
    for node in ast.walk(tree):
        if isinstance(node, ast.Subscript) and isinstance(node.ctx, ast.Load):
            places.append(node.value)
        if isinstance(node, ast.Attribute) and node.attr in ("get", "items", "keys", "values", "index", "count"):
            places.append(node.value)
        if isinstance(node, ast.Compare) and isinstance(node.ops[0], (ast.In, ast.NotIn, ast.Eq, ast.NotEq)):
            places.extend([node.left] + node.comparators)
        if isinstance(node, (ast.For, ast.comprehension)):
            places.append(node.iter)
        if called(node) in ("len", "list", "dict", "sorted"):
            places.extend(node.args)
    return [place for place in places if isinstance(place, ast.Name)]


class TestFiles(unittest.TestCase):
    def test_names_of_files(self):
        self.assertIn(PACKAGE / "__init__.py", FILES)
        for path in FILES:
            self.assertRegex(str(path.relative_to(PACKAGE)), r"^(__init__|[a-z][a-z0-9_]*)\.py$")
            self.assertNotIn(path.stem, set(dir(builtins)) | WORDS)

    def test_signs_and_sizes(self):
        for path in FILES:
            rows = path.read_text(encoding="ascii").split("\n")
            self.assertLessEqual(len(rows), 400, path)
            for row in rows:
                self.assertRegex(row, r"^[ -~]{0,120}$", path)

    def test_words_that_stand_nowhere(self):
        for path in FILES:
            text = path.read_text(encoding="ascii")
            self.assertFalse(WORDS & set(re.findall(r"[A-Za-z_0-9]+", text)), path)
            self.assertNotRegex(text, "dataclass|overload|contextmanager", path)


class TestCode(unittest.TestCase):
    def test_only_allowed_forms(self):
        for path, node in nodes(ast.AST):
            self.assertIsInstance(node, ALLOWED, (path.name, ast.dump(node)))

    def test_top_of_modules(self):
        for path, tree in TREES.items():
            self.assertIsNotNone(ast.get_docstring(tree), path)
            for node in tree.body[1:]:
                self.assertIsInstance(node, (ast.ImportFrom, ast.FunctionDef, ast.ClassDef, ast.Assign), path)
            names = [node.name for node in tree.body if isinstance(node, (ast.FunctionDef, ast.ClassDef))]
            self.assertEqual(len(names), len(set(names)), path)

    def test_plain_values_at_the_top(self):
        for path, tree in TREES.items():
            for node in tree.body:
                if isinstance(node, ast.Assign):
                    value = ast.literal_eval(node.value)
                    within = value.values() if isinstance(value, dict) else value if isinstance(value, list) else []
                    self.assertFalse([part for part in within if isinstance(part, (list, dict))], path)

    def test_what_is_kept_at_the_top_is_only_read(self):
        for path, tree in TREES.items():
            kept = kept_at_top(tree)
            read = only_read(tree)
            for node in ast.walk(tree):
                if isinstance(node, ast.Name) and isinstance(node.ctx, ast.Load) and node.id in kept:
                    self.assertIn(node, read, (path, node.lineno))
        kept_anywhere = set().union(*[kept_at_top(tree) for tree in TREES.values()])
        for path, node in nodes(ast.ImportFrom):
            self.assertFalse({alias.name for alias in node.names} & kept_anywhere, path)

    def test_imports_from_the_file_that_defines(self):
        for path, node in nodes(ast.ImportFrom):
            self.assertEqual(node.level, 0, path)
            self.assertTrue(node.module.startswith("whenrows."), path)
            self.assertIn(node, TREES[path].body)
            for alias in node.names:
                self.assertIn(alias.name, defined_at_top(TREES[module_path(node.module)]), path)

    def test_no_two_files_draw_from_one_another(self):
        drawn = {path: set() for path in TREES}
        for path, node in nodes(ast.ImportFrom):
            drawn[path].add(module_path(node.module))
        for path in TREES:
            reached = set()
            ahead = list(drawn[path])
            while ahead:
                other = ahead.pop()
                if other not in reached:
                    reached.add(other)
                    ahead.extend(drawn[other])
            self.assertNotIn(path, reached)

    def test_functions(self):
        for path, node in nodes((ast.FunctionDef, ast.Lambda)):
            parts = node.args
            self.assertFalse(parts.vararg or parts.kwarg or parts.kwonlyargs or parts.posonlyargs, path)
            if isinstance(node, ast.FunctionDef):
                self.assertLessEqual(node.end_lineno - node.lineno + 1, 40, (path, node.name))
                self.assertEqual(node.decorator_list, [])

    def test_classes(self):
        for path, node in nodes(ast.ClassDef):
            self.assertIn(node, TREES[path].body)
            self.assertLessEqual(len(node.bases), 1)
            self.assertEqual((node.decorator_list, node.keywords), ([], []))
            rest = node.body[1:] if ast.get_docstring(node) else node.body
            for part in rest:
                self.assertIsInstance(part, (ast.FunctionDef, ast.Pass), (path, node.name))

    def test_names(self):
        for path, tree in TREES.items():
            bound = bound_names(tree)
            for name in bound - set(OWN_UNDERSCORES):
                self.assertRegex(name, r"^[A-Za-z]", path)
            self.assertFalse(bound & set(dir(builtins)), path)
            read = {node.id for node in ast.walk(tree) if isinstance(node, ast.Name)}
            self.assertFalse((bound | read) & NAMES_OUT, path)
            self.assertEqual(read - bound - BUILT_IN, set(), path)

    def test_no_local_is_called_like_a_class_or_an_import(self):
        for path, tree in TREES.items():
            taken = {node.name for node in tree.body if isinstance(node, ast.ClassDef)}
            taken.update(alias.name for node in tree.body if isinstance(node, ast.ImportFrom) for alias in node.names)
            for node in ast.walk(tree):
                if isinstance(node, ast.arg):
                    self.assertNotIn(node.arg, taken, path)
                if isinstance(node, ast.Name) and isinstance(node.ctx, ast.Store):
                    self.assertNotIn(node.id, taken, path)

    def test_members(self):
        own = own_members()
        for path, node in nodes(ast.Attribute):
            self.assertIn(node.attr, METHODS | own | set(OWN_UNDERSCORES), path)

    def test_names_of_members(self):
        methods = [name for path, node in nodes(ast.ClassDef) for name in own_methods(node)]
        self.assertFalse(set(methods) & own_values())
        self.assertFalse(own_values() & PYTHONS_OWN - VALUES_TOO)
        self.assertFalse(set(methods) & PYTHONS_OWN - METHODS - METHODS_TOO)
        for path, node in nodes(ast.ClassDef):
            self.assertEqual(len(own_methods(node)), len(set(own_methods(node))), (path, node.name))

    def test_init_gives_back_nothing(self):
        for path, node in nodes(ast.FunctionDef):
            if node.name == "__init__":
                self.assertFalse([part for part in ast.walk(node) if isinstance(part, ast.Return)], path)

    def test_sets_are_not_kept_and_not_walked(self):
        self.assertEqual(nodes(ast.Set), [])
        for path, tree in TREES.items():
            in_place = sets_in_place(tree)
            for node in ast.walk(tree):
                if called(node) in ("set", "frozenset"):
                    self.assertIn(node, in_place, (path, node.lineno))

    def test_statements(self):
        for path, node in nodes(ast.Assign):
            self.assertEqual(len(node.targets), 1, path)
        for path, node in nodes((ast.For, ast.While)):
            self.assertEqual(node.orelse, [], path)
        for path, node in nodes(ast.Try):
            self.assertEqual(node.finalbody, [], path)
        for path, node in nodes(ast.ListComp):
            self.assertEqual(len(node.generators), 1, path)
            self.assertLessEqual(len(node.generators[0].ifs), 1, path)
        for path, node in nodes(ast.Expr):
            self.assertTrue(
                isinstance(node.value, ast.Call) or isinstance(getattr(node.value, "value", None), str), path
            )

    def test_is_stands_beside_none_true_false(self):
        for path, node in nodes(ast.Compare):
            for operator, right in zip(node.ops, node.comparators):
                if isinstance(operator, (ast.Is, ast.IsNot)):
                    self.assertTrue(isinstance(right, ast.Constant) and right.value in (None, True, False), path)

    def test_values(self):
        for path, node in nodes(ast.Constant):
            self.assertIsInstance(node.value, (int, str, bool, type(None)), path)
            if isinstance(node.value, str):
                self.assertNotIn("%", node.value, path)
        for path, node in nodes(ast.FormattedValue):
            self.assertIsInstance(node.value, ast.Name, path)
            self.assertIsNone(node.format_spec, path)


if __name__ == "__main__":
    unittest.main()
