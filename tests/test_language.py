"""What the rules of the code do not allow, as far as a short script can see it; the number is the rule's."""

import ast
import builtins
import os
import re
import unittest

ROOT = os.path.dirname(os.path.dirname(os.path.abspath(__file__)))
PACKAGE = os.path.join(ROOT, "everyzone")

STATEMENTS = (
    ast.Assign, ast.AugAssign, ast.AnnAssign, ast.If, ast.While, ast.For, ast.Return, ast.Break, ast.Continue, ast.Pass,
    ast.Raise, ast.Assert, ast.Delete, ast.Nonlocal, ast.Match, ast.With, ast.Try, ast.Expr, ast.FunctionDef,
    ast.ClassDef, ast.ImportFrom,
)
BUILTINS = """len range enumerate zip min max sum abs sorted reversed int str bool bytes list tuple dict set frozenset
    isinstance ord repr any all divmod Exception ValueError TypeError KeyError IndexError LookupError ZeroDivisionError
    ArithmeticError OverflowError RuntimeError NotImplementedError AttributeError StopIteration NotImplemented iter next
    super property staticmethod classmethod""".split()
METHODS = """append clear copy count endswith extend find get index insert isalnum isalpha isdigit islower isspace
    isupper items join keys ljust lower lstrip partition pop remove replace reverse rfind rjust rpartition rsplit rstrip
    setdefault split splitlines startswith strip update upper values zfill bit_length title capitalize swapcase casefold
    center expandtabs removeprefix removesuffix rindex isascii isdecimal isnumeric istitle isidentifier isprintable
    translate add discard sort""".split()
SPECIAL = """__init__ __eq__ __repr__ __str__ __len__ __enter__ __exit__ __call__ __iter__ __lt__ __le__ __gt__ __ge__
    __ne__ __contains__ __getitem__ __setitem__ __bool__""".split()
NOT_NAMES = """register mro elements open input law version_info with_traceback add_note attrgetter breakpoint builtins
    compile copyright credits delattr dir eval exec exit gc getattr globals hasattr help id importlib license locals
    methodcaller os quit setattr type vars sys""".split()
NOT_WORDS = r"""\b(type|typing|typing_extensions|enum|Enum|IntEnum|StrEnum|Flag|IntFlag|Generic|Protocol|ABC|ABCMeta|
    namedtuple|NamedTuple|TypedDict|TYPE_CHECKING|abstractmethod)\b|dataclass|overload|contextmanager"""
OVER_LISTS = ("any", "all", "min", "max", "sum", "sorted")


def read_files():
    """The text of each file of the package."""
    found = {}
    for name in sorted(os.listdir(PACKAGE)):
        if name != "__pycache__":
            with open(os.path.join(PACKAGE, name), encoding="utf-8") as file:
                found[name] = file.read()
    return found


FILES = read_files()
TREES = {name: ast.parse(text) for name, text in FILES.items()}


def nodes(*kinds):
    """All nodes of some kinds, each with the place where it stands."""
    return [(f"{name}:{getattr(node, 'lineno', 0)}", node)
            for name, tree in TREES.items() for node in ast.walk(tree) if isinstance(node, kinds)]


def bound_names():
    """All names that the package gives to something, each with its place."""
    found = []
    for place, node in nodes(ast.FunctionDef, ast.ClassDef, ast.arg, ast.Name, ast.alias):
        if isinstance(node, ast.Name):
            if isinstance(node.ctx, ast.Store):
                found.append((place, node.id))
        elif isinstance(node, ast.arg):
            found.append((place, node.arg))
        elif isinstance(node, ast.alias):
            found.append((place, node.asname or node.name))
        else:
            found.append((place, node.name))
    return found


def defined_in(tree):
    """The names that the statements of a file bind at module level, without imports."""
    found = []
    for node in tree.body:
        if isinstance(node, (ast.FunctionDef, ast.ClassDef)):
            found.append(node.name)
        elif isinstance(node, ast.Assign):
            found += [target.id for target in node.targets]
    return found


class Texts(unittest.TestCase):
    def test_size_and_characters(self):
        for name, text in FILES.items():
            self.assertRegex(name, r"^[a-z0-9_]+\.py$", "L14")
            self.assertLessEqual(len(text.split("\n")), 399, f"L10 {name}")
            self.assertLessEqual(max(map(len, text.split("\n"))), 120, f"L10 {name}")
            self.assertEqual([sign for sign in text if not (" " <= sign <= "~" or sign == "\n")], [], f"L14 {name}")

    def test_size_of_functions(self):
        for place, node in nodes(ast.FunctionDef):
            self.assertLessEqual(node.end_lineno - node.lineno + 1, 40, f"L10 {place}")

    def test_words(self):
        for name, text in FILES.items():
            self.assertIsNone(re.search(re.sub(r"\s", "", NOT_WORDS), text), f"L17 {name}")

    def test_strings(self):
        for place, node in nodes(ast.Constant, ast.JoinedStr):
            if isinstance(node, ast.JoinedStr) or isinstance(node.value, str):
                self.assertNotIn("%", ast.get_source_segment(FILES[place.split(":")[0]], node) or "", f"L27 {place}")
            else:
                self.assertNotIsInstance(node.value, (float, complex), f"L7 {place}")


class Modules(unittest.TestCase):
    def test_imports(self):
        for place, node in nodes(ast.ImportFrom):
            self.assertRegex(node.module, r"^everyzone\.[a-z]+$", f"L2 {place}")
            file = node.module.split(".")[1] + ".py"
            for alias in node.names:
                self.assertIn(alias.name, defined_in(TREES[file]), f"L16 {place}")
        for name, tree in TREES.items():
            count = len([node for node in ast.walk(tree) if isinstance(node, ast.ImportFrom)])
            start = 1 if ast.get_docstring(tree) else 0
            top = [isinstance(node, ast.ImportFrom) for node in tree.body[start:start + count]]
            self.assertEqual(top, [True] * count, f"L2 {name}")

    def test_no_imports_in_a_ring(self):
        needs = {name: [node.module.split(".")[1] + ".py" for node in tree.body if isinstance(node, ast.ImportFrom)]
                 for name, tree in TREES.items()}
        self.assertEqual(needs["__init__.py"], [], "L16")
        while needs:
            free = [name for name, files in needs.items() if not any(file in needs for file in files)]
            self.assertNotEqual(free, [], f"L16 {needs}")
            needs = {name: files for name, files in needs.items() if name not in free}

    def test_module_level(self):
        for name, tree in TREES.items():
            for number, node in enumerate(tree.body):
                text = number == 0 and isinstance(node, ast.Expr)
                kinds = (ast.ImportFrom, ast.FunctionDef, ast.ClassDef, ast.Assign)
                self.assertTrue(text or isinstance(node, kinds), f"L3 {name}:{node.lineno}")

    def test_one_binding_for_each_name(self):
        for name, tree in TREES.items():
            names = defined_in(tree) + [alias.asname or alias.name for node in tree.body
                                        if isinstance(node, ast.ImportFrom) for alias in node.names]
            self.assertEqual(len(names), len(set(names)), f"L15 {name}")


class Code(unittest.TestCase):
    def test_statements(self):
        for place, node in nodes(ast.stmt):
            self.assertIsInstance(node, STATEMENTS, f"L6 {place}")

    def test_expressions(self):
        for place, node in nodes(ast.Await, ast.AsyncFor, ast.Div, ast.MatMult):
            self.fail(f"L6 L7 {place}")
        for place, node in nodes(ast.Compare):
            for sign, right in zip(node.ops, node.comparators):
                if isinstance(sign, (ast.Is, ast.IsNot)):
                    self.assertTrue(isinstance(right, ast.Constant) and right.value in (None, True, False), f"L20 {place}")

    def test_generator_expressions(self):
        for place, node in nodes(ast.Call):
            if isinstance(node.func, ast.Name) and node.func.id in OVER_LISTS:
                self.assertFalse(any(isinstance(item, ast.GeneratorExp) for item in node.args), f"L7 {place}")

    def test_names(self):
        for place, name in bound_names():
            own = name in SPECIAL or re.match(r"^__(r|i)?[a-z]+__$", name)
            self.assertTrue(own or re.match(r"^[A-Za-z][A-Za-z0-9_]*$", name), f"L12 {place} {name}")
            self.assertNotIn(name, NOT_NAMES, f"L17 {place}")
            self.assertNotIn(name, dir(builtins), f"L15 {place}")

    def test_builtins(self):
        for place, node in nodes(ast.Name):
            if hasattr(builtins, node.id):
                self.assertIn(node.id, BUILTINS, f"L8 {place}")

    def test_calls_of_methods(self):
        own = [node.name for place, node in nodes(ast.FunctionDef)]
        for place, node in nodes(ast.Call):
            if isinstance(node.func, ast.Attribute):
                self.assertIn(node.func.attr, own + METHODS, f"L25 {place}")


class Classes(unittest.TestCase):
    def test_bodies(self):
        for place, node in nodes(ast.ClassDef):
            self.assertEqual(node.decorator_list, [], f"L5 {place}")
            for item in node.body:
                self.assertIsInstance(item, (ast.FunctionDef, ast.Expr, ast.Assign), f"L5 {place}")

    def test_decorators(self):
        for place, node in nodes(ast.FunctionDef):
            for mark in node.decorator_list:
                plain = isinstance(mark, ast.Name) and mark.id in ("property", "staticmethod", "classmethod")
                setter = isinstance(mark, ast.Attribute) and mark.attr == "setter"
                self.assertTrue(plain or setter, f"L4 {place}")

    def test_methods_and_attributes_have_different_names(self):
        methods = {item.name for place, node in nodes(ast.ClassDef) for item in node.body
                   if isinstance(item, ast.FunctionDef)}
        assigned = {node.attr for place, node in nodes(ast.Attribute) if isinstance(node.ctx, ast.Store)}
        self.assertEqual(methods & assigned, set(), "L18")
        for place, node in nodes(ast.Attribute):
            self.assertIn(node.attr, methods | assigned | set(METHODS), f"L18 {place}")


if __name__ == "__main__":
    unittest.main()
