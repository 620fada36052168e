"""The package's files keep to their part of Python, so far as it can be read off them.

This sees the rules that a walk over the parsed file can see; the others are for the reader.
"""

import ast
import builtins
import pathlib
import re
import unittest

PACKAGE = pathlib.Path(__file__).resolve().parent.parent / "postroads"

# What L3 to L7 allow, as Python's parser calls it.
ALLOWED = set("""
    Module ImportFrom alias FunctionDef arguments arg ClassDef Lambda Assign AugAssign If While For Return Break
    Continue Pass Raise Try ExceptHandler Expr Name Load Store Constant List Tuple Dict BinOp Add Sub Mult FloorDiv
    Mod Pow BitAnd BitOr BitXor LShift RShift UnaryOp USub UAdd Invert Not BoolOp And Or Compare Eq NotEq Lt LtE Gt
    GtE In NotIn Is IsNot IfExp Call keyword Attribute Subscript Slice ListComp comprehension JoinedStr
    FormattedValue
""".split())

# L8, less what L27 takes back.
OF_PYTHON = set("""
    len range enumerate zip min max sum abs sorted reversed int str bool list tuple dict set frozenset isinstance
    ord repr any all divmod Exception ValueError TypeError KeyError IndexError LookupError ZeroDivisionError
    ArithmeticError OverflowError RuntimeError NotImplementedError AttributeError StopIteration
""".split())

# L25.
METHODS = set("""
    append clear copy count endswith extend find get index insert isalnum isalpha isdigit islower isspace isupper
    items join keys ljust lower lstrip partition pop remove replace reverse rfind rjust rpartition rsplit rstrip
    setdefault split splitlines startswith strip update upper values zfill bit_length
""".split())

TWO_UNDERSCORES = {"__init__", "__eq__", "__repr__", "__str__", "__len__"}

# L17: words that stand nowhere, remarks and texts too.
WORDS = """
    type typing typing_extensions enum Enum IntEnum StrEnum Flag IntFlag Generic Protocol ABC ABCMeta namedtuple
    NamedTuple TypedDict TYPE_CHECKING abstractmethod
""".split()
PARTS = ("dataclass", "overload", "contextmanager")

# L17: names that are not used, as a name, a method or a value.
NAMES = set("""
    register mro elements open input version_info with_traceback add_note attrgetter breakpoint builtins compile
    copyright credits delattr dir eval exec exit gc getattr globals hasattr help id importlib license locals
    methodcaller os quit setattr super type vars sys format format_map
""".split())


def bound_names(tree):
    """Every name that a file gives a meaning, and every value that it gives an object."""
    for node in ast.walk(tree):
        if isinstance(node, (ast.FunctionDef, ast.ClassDef)):
            yield node.name
        elif isinstance(node, ast.arg):
            yield node.arg
        elif isinstance(node, ast.alias):
            yield node.asname or node.name
        elif isinstance(node, ast.Name) and isinstance(node.ctx, ast.Store):
            yield node.id
        elif isinstance(node, ast.Attribute) and isinstance(node.ctx, ast.Store):
            yield node.attr


def own_names(trees):
    return {name for tree in trees for name in bound_names(tree)}


class KeepsToItsPartOfPython(unittest.TestCase):

    def setUp(self):
        self.files = sorted(path for path in PACKAGE.rglob("*") if "__pycache__" not in path.parts)
        self.texts = {path: path.read_text(encoding="utf-8") for path in self.files}
        self.trees = {path: ast.parse(text) for path, text in self.texts.items()}

    def nodes(self, *kinds):
        for path, tree in self.trees.items():
            for node in ast.walk(tree):
                if isinstance(node, kinds):
                    yield f"{path.name}:{getattr(node, 'lineno', 0)}", node

    def test_files(self):
        self.assertIn(PACKAGE / "__init__.py", self.files)
        for path in self.files:
            self.assertRegex(path.name, r"\A([a-z][a-z0-9_]*|__init__|__main__)\.py\Z")
            self.assertFalse(path.stem in dir(builtins) or path.stem.startswith("test"), path)

    def test_signs_and_sizes(self):
        for path, text in self.texts.items():
            self.assertRegex(text, r"\A[ -~\n]*\Z", path)
            rows = text.split("\n")
            self.assertLessEqual(len(rows), 401, path)
            self.assertLessEqual(max(len(row) for row in rows), 120, path)
        for where, node in self.nodes(ast.FunctionDef):
            self.assertLessEqual(node.end_lineno - node.lineno + 1, 40, where)

    def test_words(self):
        pattern = r"\b(" + "|".join(WORDS) + r")\b|" + "|".join(PARTS)
        for path, text in self.texts.items():
            self.assertIsNone(re.search(pattern, text), path)

    def test_forms(self):
        for where, node in self.nodes(ast.AST):
            self.assertIn(type(node).__name__, ALLOWED, where)
        for where, node in self.nodes(ast.Constant):
            self.assertIn(type(node.value), (int, str, bool, type(None)), where)
        for where, node in self.nodes(ast.Assign):
            self.assertEqual(len(node.targets), 1, where)
            self.assertIsInstance(node.targets[0], (ast.Name, ast.Attribute, ast.Subscript), where)
        for where, node in self.nodes(ast.For, ast.While, ast.Try):
            self.assertFalse(node.orelse and not isinstance(node, ast.Try), where)
            self.assertFalse(getattr(node, "finalbody", []), where)
        for where, node in self.nodes(ast.ListComp):
            self.assertEqual(len(node.generators), 1, where)
            self.assertLessEqual(len(node.generators[0].ifs), 1, where)

    def test_texts_that_stand_by_themselves_open_a_file(self):
        for path, tree in self.trees.items():
            for node in ast.walk(tree):
                if isinstance(node, ast.Expr) and not isinstance(node.value, ast.Call):
                    self.assertIs(node, tree.body[0], f"{path.name}:{node.lineno}")

    def test_functions_and_classes(self):
        for where, node in self.nodes(ast.FunctionDef, ast.ClassDef):
            self.assertEqual(node.decorator_list, [], where)
        for where, node in self.nodes(ast.arguments):
            self.assertFalse(node.vararg or node.kwarg or node.kwonlyargs or node.posonlyargs, where)
        for where, node in self.nodes(ast.ClassDef):
            self.assertLessEqual(len(node.bases), 1, where)
            self.assertTrue(all(isinstance(part, ast.FunctionDef) for part in node.body), where)

    def test_imports(self):
        drawn = {}
        for path, tree in self.trees.items():
            rows = [node for node in ast.walk(tree) if isinstance(node, ast.ImportFrom)]
            for node in rows:
                self.assertIn(node, tree.body, path)
                self.assertRegex(node.module or "", r"\Apostroads\.[a-z_]+\Z", path)
                self.assertEqual(node.level, 0, path)
                source = self.trees[PACKAGE / (node.module.split(".")[1] + ".py")]
                defined = {part.name for part in source.body if isinstance(part, (ast.FunctionDef, ast.ClassDef))}
                defined |= {part.targets[0].id for part in source.body if isinstance(part, ast.Assign)}
                self.assertLessEqual({alias.name for alias in node.names}, defined, path)
            drawn[path.stem] = {node.module.split(".")[1] for node in rows}
        while drawn:
            free = [name for name, others in drawn.items() if not others & set(drawn)]
            self.assertTrue(free, f"these files draw from one another: {sorted(drawn)}")
            drawn = {name: others for name, others in drawn.items() if name not in free}

    def test_names(self):
        own = own_names(self.trees.values())
        for name in own:
            self.assertTrue(name in TWO_UNDERSCORES or re.fullmatch(r"[A-Za-z][A-Za-z0-9_]*", name), name)
            self.assertNotIn(name, NAMES)
            self.assertFalse(name in dir(builtins), name)
        for where, node in self.nodes(ast.Name):
            self.assertTrue(node.id in own or node.id in OF_PYTHON, f"{where} {node.id}")
        for where, node in self.nodes(ast.Attribute):
            self.assertNotIn(node.attr, NAMES, where)
            self.assertTrue(node.attr in own or node.attr in METHODS, f"{where} {node.attr}")

    def test_no_local_is_called_like_a_class_or_an_import_of_its_file(self):
        for path, tree in self.trees.items():
            taken = {alias.name for node in tree.body if isinstance(node, ast.ImportFrom) for alias in node.names}
            taken |= {node.name for node in tree.body if isinstance(node, ast.ClassDef)}
            for node in ast.walk(tree):
                if isinstance(node, ast.Name) and isinstance(node.ctx, ast.Store):
                    self.assertNotIn(node.id, taken, f"{path.name}:{node.lineno}")
                if isinstance(node, ast.arg):
                    self.assertNotIn(node.arg, taken, f"{path.name}:{node.lineno}")

    def test_no_method_is_called_like_a_value(self):
        methods = {part.name for where, node in self.nodes(ast.ClassDef) for part in node.body}
        values = {node.attr for where, node in self.nodes(ast.Attribute) if isinstance(node.ctx, ast.Store)}
        self.assertEqual(methods & values, set())

    def test_is_stands_beside_none_true_and_false(self):
        for where, node in self.nodes(ast.Compare):
            if any(isinstance(sign, (ast.Is, ast.IsNot)) for sign in node.ops):
                self.assertIsInstance(node.comparators[0], ast.Constant, where)
                self.assertIn(node.comparators[0].value, (None, True, False), where)


if __name__ == "__main__":
    unittest.main()
