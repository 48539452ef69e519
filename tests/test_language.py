"""Those rules of the program's language that can be seen in a file by itself."""

import ast
import builtins
import re
import unittest
from pathlib import Path

PACKAGE = Path(__file__).resolve().parent.parent / "tautcord"

NODES = """Module Import ImportFrom alias FunctionDef ClassDef Lambda arguments arg keyword
Assign AugAssign If While For Return Break Continue Pass Raise Try ExceptHandler Expr
Constant Name Attribute Subscript Slice List Tuple Dict Set ListComp comprehension JoinedStr FormattedValue Call
BinOp UnaryOp BoolOp Compare IfExp Add Sub Mult FloorDiv Mod Pow BitAnd BitOr BitXor LShift RShift Invert
UAdd USub And Or Not Eq NotEq Lt LtE Gt GtE Is IsNot In NotIn Load Store""".split()

BUILT_IN = """len range enumerate zip min max sum abs sorted reversed int str bool list tuple dict set frozenset
isinstance ord repr any all divmod Exception ValueError TypeError KeyError IndexError LookupError ZeroDivisionError
ArithmeticError OverflowError RuntimeError NotImplementedError AttributeError StopIteration""".split()

UNDERSCORED = "__init__ __eq__ __repr__ __str__ __len__ __all__ __version__".split()

WORDS = re.compile(r"\b(type|typing|typing_extensions|enum|Enum|IntEnum|StrEnum|Flag|IntFlag|Generic|Protocol|ABC|ABCMeta"
                   r"|namedtuple|NamedTuple|TypedDict|TYPE_CHECKING|abstractmethod)\b|dataclass|overload|contextmanager")


METHODS = """append clear copy count endswith extend find get index insert isalnum isalpha isdigit islower isspace isupper
items join keys ljust lower lstrip partition pop remove replace reverse rfind rjust rpartition rsplit rstrip setdefault
split splitlines startswith strip update upper values zfill bit_length""".split()

UNUSED = """register mro elements open input version_info with_traceback add_note format format_map attrgetter breakpoint
builtins compile copyright credits delattr dir eval exec exit gc getattr globals hasattr help id importlib license locals
methodcaller os quit setattr super vars chr""".split()


def bound_names(tree):
    for node in ast.walk(tree):
        if isinstance(node, (ast.FunctionDef, ast.ClassDef)):
            yield node.name
        elif isinstance(node, ast.arg):
            yield node.arg
        elif isinstance(node, ast.Name) and isinstance(node.ctx, ast.Store):
            yield node.id
        elif isinstance(node, ast.Attribute) and isinstance(node.ctx, ast.Store):
            yield node.attr
        elif isinstance(node, ast.ExceptHandler) and node.name:
            yield node.name


def drawn_from(tree):
    return [node.module for node in ast.walk(tree) if isinstance(node, ast.ImportFrom)]


class TestLanguage(unittest.TestCase):
    def setUp(self):
        self.texts = {path.name: path.read_bytes().decode("utf-8") for path in sorted(PACKAGE.glob("*.py"))}
        self.trees = {name: ast.parse(text) for name, text in self.texts.items()}

    def walk(self):
        for name, tree in self.trees.items():
            for node in ast.walk(tree):
                yield f"{name}:{getattr(node, 'lineno', 0)}", node

    def test_only_plain_files(self):
        self.assertIn("__init__.py", self.texts)
        for path in PACKAGE.iterdir():
            if path.name != "__pycache__":
                self.assertRegex(path.name, r"^([a-z][a-z0-9_]*|__init__|__main__)\.py$")

    def test_signs_and_words(self):
        for name, text in self.texts.items():
            for row, line in enumerate(text.split("\n"), start=1):
                self.assertRegex(line, r"^[ -~]{0,120}\Z", f"{name}:{row}")
                self.assertIsNone(WORDS.search(line), f"{name}:{row}")

    def test_sizes(self):
        for name, text in self.texts.items():
            self.assertLessEqual(len(text.splitlines()), 400, name)
        for place, node in self.walk():
            if isinstance(node, ast.FunctionDef):
                self.assertLessEqual(node.end_lineno - node.lineno + 1, 40, place)

    def test_nodes(self):
        for place, node in self.walk():
            self.assertIn(type(node).__name__, NODES, place)

    def test_statements(self):
        for place, node in self.walk():
            if isinstance(node, ast.Assign):
                self.assertEqual(len(node.targets), 1, place)
            if isinstance(node, (ast.For, ast.While)):
                self.assertEqual(node.orelse, [], place)
            if isinstance(node, ast.Try):
                self.assertEqual(node.finalbody, [], place)
            if isinstance(node, (ast.FunctionDef, ast.ClassDef)):
                self.assertEqual(node.decorator_list, [], place)
            if isinstance(node, ast.ClassDef):
                self.assertLessEqual(len(node.bases), 1, place)
                for part in node.body:
                    self.assertIsInstance(part, (ast.FunctionDef, ast.Pass), place)
            if isinstance(node, ast.arguments):
                self.assertEqual((node.vararg, node.kwarg, node.kwonlyargs), (None, None, []), place)

    def test_values(self):
        for place, node in self.walk():
            if isinstance(node, ast.Constant):
                self.assertIn(type(node.value), (int, str, bool, type(None)), place)
                if isinstance(node.value, str):
                    self.assertNotIn("%", node.value, place)
            if isinstance(node, ast.Compare) and any(isinstance(sign, (ast.Is, ast.IsNot)) for sign in node.ops):
                self.assertTrue(any(isinstance(thing, ast.Constant) and thing.value in (None, True, False)
                                    for thing in [node.left] + node.comparators), place)

    def test_imports(self):
        for place, node in self.walk():
            if place.startswith("__main__"):
                continue
            self.assertNotIsInstance(node, ast.Import, place)
            if isinstance(node, ast.ImportFrom):
                self.assertEqual(node.level, 0, place)
                self.assertRegex(node.module, r"^tautcord\.[a-z0-9_]+$", place)
                defined = [part.name for part in self.trees[node.module.split(".")[1] + ".py"].body
                           if isinstance(part, (ast.FunctionDef, ast.ClassDef))]
                defined += [part.targets[0].id for part in self.trees[node.module.split(".")[1] + ".py"].body
                            if isinstance(part, ast.Assign)]
                for drawn in node.names:
                    self.assertIn(drawn.name, defined, place)

    def test_no_ring_of_imports(self):
        left = {f"tautcord.{name[:-3]}": drawn_from(tree) for name, tree in self.trees.items()}
        while left:
            ready = [name for name, drawn in left.items() if not any(other in left for other in drawn)]
            self.assertNotEqual(ready, [], f"a ring among {sorted(left)}")
            for name in ready:
                left.pop(name)

    def test_names(self):
        own = set(dir(builtins))
        for name, tree in self.trees.items():
            for bound in bound_names(tree):
                if bound not in UNDERSCORED:
                    self.assertRegex(bound, r"^[A-Za-z][A-Za-z0-9_]*$", name)
            for node in ast.walk(tree):
                if isinstance(node, ast.Name) and node.id in own:
                    self.assertIsInstance(node.ctx, ast.Load, f"{name}:{node.lineno}")
                    self.assertIn(node.id, BUILT_IN + ["print"] * (name == "__main__.py"), f"{name}:{node.lineno}")
                if isinstance(node, ast.arg):
                    self.assertNotIn(node.arg, own, f"{name}:{node.lineno}")

    def test_no_name_like_an_import_or_a_class_of_the_file(self):
        for name, tree in self.trees.items():
            drawn = [part.name for node in tree.body if isinstance(node, ast.ImportFrom) for part in node.names]
            taken = drawn + [node.name for node in tree.body if isinstance(node, ast.ClassDef)]
            for node in ast.walk(tree):
                if isinstance(node, ast.arg):
                    self.assertNotIn(node.arg, taken, f"{name}:{node.lineno}")
                if isinstance(node, ast.Name) and isinstance(node.ctx, ast.Store):
                    self.assertNotIn(node.id, taken, f"{name}:{node.lineno}")

    def test_unused_names(self):
        for place, node in self.walk():
            if isinstance(node, ast.Name):
                self.assertNotIn(node.id, UNUSED, place)

    def test_methods_and_values(self):
        classes = [node for place, node in self.walk() if isinstance(node, ast.ClassDef)]
        methods = [part.name for node in classes for part in node.body if isinstance(part, ast.FunctionDef)]
        called = [id(node.func) for place, node in self.walk() if isinstance(node, ast.Call)]
        values = [node.attr for place, node in self.walk()
                  if isinstance(node, ast.Attribute) and isinstance(node.ctx, ast.Store)]
        for value in values:
            self.assertNotIn(value, methods)
        for place, node in self.walk():
            if isinstance(node, ast.Attribute) and id(node) in called:
                self.assertIn(node.attr, METHODS + methods, place)
            elif isinstance(node, ast.Attribute):
                self.assertIn(node.attr, values, place)

    def test_powers_have_a_small_written_exponent(self):
        for place, node in self.walk():
            if isinstance(node, ast.BinOp) and isinstance(node.op, ast.Pow):
                self.assertIsInstance(node.right, ast.Constant, place)
                self.assertIn(node.right.value, range(65), place)


if __name__ == "__main__":
    unittest.main()
