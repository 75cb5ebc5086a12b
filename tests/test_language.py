"""The form of the package's own files: the rules of its small part of Python that can be seen in a file."""

import ast
import builtins
import pathlib
import re
import unittest

PACKAGE = pathlib.Path(__file__).resolve().parent.parent / "genedrift"

NODES = """
    Module FunctionDef ClassDef Return Assign AugAssign For While If Raise Try ExceptHandler Expr Pass Break Continue
    ImportFrom alias arguments arg keyword Lambda BoolOp BinOp UnaryOp IfExp Dict Set ListComp comprehension Compare
    Call FormattedValue JoinedStr Constant Attribute Subscript Name List Tuple Slice Load Store And Or Add Sub Mult
    Mod Pow LShift RShift BitOr BitXor BitAnd FloorDiv Invert Not USub UAdd Eq NotEq Lt LtE Gt GtE Is IsNot In NotIn
""".split()

BUILT_IN = """
    len range enumerate zip min max sum abs sorted reversed int str bool list tuple dict set frozenset isinstance ord
    repr any all divmod Exception ValueError TypeError KeyError IndexError LookupError ZeroDivisionError
    ArithmeticError OverflowError RuntimeError NotImplementedError StopIteration
""".split()

METHODS = """
    append clear copy count endswith extend find get index insert isalnum isalpha isdigit islower isspace isupper items
    join keys ljust lower lstrip partition pop remove replace reverse rfind rjust rpartition rsplit rstrip setdefault
    split splitlines startswith strip update upper values zfill bit_length
""".split()

WORDS = """
    type typing typing_extensions enum Enum IntEnum StrEnum Flag IntFlag Generic Protocol ABC ABCMeta namedtuple
    NamedTuple TypedDict TYPE_CHECKING abstractmethod
""".split()

PARTS_OF_WORDS = ("dataclass", "overload", "contextmanager")

UNUSED_NAMES = """
    register mro elements open input version_info with_traceback add_note attrgetter breakpoint builtins compile
    copyright credits delattr dir eval exec exit gc getattr globals hasattr help id importlib license locals
    methodcaller os quit setattr super sys vars format format_map
""".split()


def package_files():
    return sorted(path for path in PACKAGE.rglob("*") if path.is_file() and path.parent.name != "__pycache__")


def trees():
    return [(path.name, ast.parse(path.read_text())) for path in package_files()]


def nodes(kind):
    return [(name, node) for name, tree in trees() for node in ast.walk(tree) if isinstance(node, kind)]


def top_names(tree):
    """The names that are bound at a file's top, and those among them that are imports or classes."""
    bound = []
    taken = []
    for node in tree.body:
        if isinstance(node, ast.ImportFrom):
            taken += [alias.asname or alias.name for alias in node.names]
        elif isinstance(node, ast.ClassDef):
            taken.append(node.name)
        elif isinstance(node, ast.FunctionDef):
            bound.append(node.name)
        elif isinstance(node, ast.Assign):
            bound += [target.id for target in node.targets]
    return bound + taken, taken


class Files(unittest.TestCase):
    def test_python_files_alone(self):
        self.assertIn("__init__.py", [path.name for path in package_files()])
        for path in package_files():
            self.assertRegex(path.name, r"^([a-z][a-z0-9_]*|__init__|__main__)\.py$")

    def test_plain_signs_and_sizes(self):
        for path in package_files():
            text = path.read_text()
            self.assertRegex(text, r"\A[ -~\n]*\Z", path.name)
            self.assertLessEqual(len(text.splitlines()), 400, path.name)
            self.assertLessEqual(max(len(line) for line in text.splitlines()), 120, path.name)

    def test_words_that_are_not_used(self):
        for path in package_files():
            text = path.read_text()
            for word in WORDS:
                self.assertIsNone(re.search(rf"\b{word}\b", text), f"{word} in {path.name}")
            for part in PARTS_OF_WORDS:
                self.assertNotIn(part, text, path.name)


class Code(unittest.TestCase):
    def test_parts_of_the_language(self):
        for name, node in nodes(ast.AST):
            self.assertIn(type(node).__name__, NODES, f"{name}, line {getattr(node, 'lineno', '?')}")

    def test_imports_are_the_packages_own(self):
        for name, node in nodes(ast.ImportFrom):
            self.assertEqual(node.level, 0, name)
            self.assertRegex(node.module, r"^genedrift\.[a-z_]+$", name)

    def test_imports_are_from_the_file_that_defines_the_name(self):
        defined = {}
        for name, tree in trees():
            bound, taken = top_names(tree)
            classes = [node.name for node in tree.body if isinstance(node, ast.ClassDef)]
            defined[name] = [word for word in bound if word not in taken] + classes
        for name, node in nodes(ast.ImportFrom):
            for alias in node.names:
                self.assertIn(alias.name, defined[node.module.split(".")[1] + ".py"], name)

    def test_no_two_files_draw_from_one_another(self):
        drawn = {name: [] for name, tree in trees()}
        for name, node in nodes(ast.ImportFrom):
            drawn[name].append(node.module.split(".")[1] + ".py")
        while drawn:
            free = [name for name in drawn if not any(other in drawn for other in drawn[name])]
            self.assertNotEqual(free, [], drawn)
            for name in free:
                drawn.pop(name)

    def test_the_top_of_a_file(self):
        for name, tree in trees():
            bound, taken = top_names(tree)
            self.assertEqual(len(bound), len(set(bound)), name)
            for place, node in enumerate(tree.body):
                if place == 0:
                    self.assertIsNotNone(ast.get_docstring(tree), name)
                else:
                    self.assertIsInstance(node, (ast.ImportFrom, ast.FunctionDef, ast.ClassDef, ast.Assign), name)

    def test_no_local_is_called_like_an_import_or_a_class(self):
        for name, tree in trees():
            bound, taken = top_names(tree)
            for function in [node for node in ast.walk(tree) if isinstance(node, ast.FunctionDef)]:
                for node in ast.walk(function):
                    if isinstance(node, ast.arg):
                        self.assertNotIn(node.arg, taken, f"{name}, {function.name}")
                    elif isinstance(node, ast.Name) and isinstance(node.ctx, ast.Store):
                        self.assertNotIn(node.id, bound, f"{name}, {function.name}")

    def test_names_that_are_not_used(self):
        for name, node in nodes((ast.Name, ast.Attribute, ast.arg, ast.FunctionDef)):
            used = [getattr(node, field, None) for field in ("id", "attr", "arg", "name")]
            for word in used:
                self.assertNotIn(word, UNUSED_NAMES, f"{name}, line {node.lineno}")

    def test_no_percent_sign_within_a_text(self):
        for name, node in nodes(ast.Constant):
            if isinstance(node.value, str):
                self.assertNotIn("%", node.value, f"{name}, line {node.lineno}")

    def test_functions(self):
        for name, node in nodes(ast.FunctionDef):
            self.assertLessEqual(node.end_lineno - node.lineno + 1, 40, f"{name}, {node.name}")
            self.assertEqual(node.decorator_list, [], f"{name}, {node.name}")
            self.assertIsNone(node.args.vararg or node.args.kwarg, f"{name}, {node.name}")
            self.assertEqual(node.args.kwonlyargs, [], f"{name}, {node.name}")

    def test_values(self):
        for name, node in nodes(ast.Constant):
            self.assertIn(type(node.value), (int, str, bool, type(None)), f"{name}, line {node.lineno}")

    def test_one_target_in_an_assignment(self):
        for name, node in nodes(ast.Assign):
            self.assertEqual(len(node.targets), 1, f"{name}, line {node.lineno}")

    def test_exponents_are_written(self):
        for name, node in nodes(ast.BinOp):
            if isinstance(node.op, ast.Pow):
                self.assertIsInstance(node.right, ast.Constant, f"{name}, line {node.lineno}")

    def test_no_else_behind_a_loop(self):
        for name, node in nodes((ast.For, ast.While)):
            self.assertEqual(node.orelse, [], f"{name}, line {node.lineno}")

    def test_plain_names(self):
        python_names = dir(builtins)
        for name, node in nodes((ast.Name, ast.arg)):
            used = node.id if isinstance(node, ast.Name) else node.arg
            self.assertFalse(used.startswith("_"), f"{name}, {used}")
            if isinstance(node, ast.arg) or isinstance(node.ctx, ast.Store):
                self.assertNotIn(used, python_names, name)
            elif used in python_names:
                self.assertIn(used, BUILT_IN, name)

    def test_methods_are_of_the_package_or_of_the_few(self):
        own = [node.name for name, node in nodes(ast.FunctionDef)]
        for name, node in nodes(ast.Call):
            if isinstance(node.func, ast.Attribute):
                self.assertIn(node.func.attr, METHODS + own, f"{name}, line {node.lineno}")


if __name__ == "__main__":
    unittest.main()
