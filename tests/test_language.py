"""The rules of ../shared/LANGUAGE.md that can be read off the code plainly; the others are kept by hand."""

import ast
import builtins
import pathlib
import re
import unittest

PACKAGE = pathlib.Path(__file__).resolve().parent.parent / "callcoin"
BUILTINS = set(
    "len range enumerate zip min max sum abs sorted reversed int str bool bytes list tuple dict set frozenset "
    "isinstance ord repr any all divmod Exception ValueError TypeError KeyError IndexError LookupError "
    "ZeroDivisionError ArithmeticError OverflowError RuntimeError NotImplementedError AttributeError StopIteration "
    "NotImplemented object super property staticmethod classmethod".split()
)
BUILTIN_METHODS = set(
    "append clear copy count endswith extend find get index insert isalnum isalpha isdigit islower isspace isupper "
    "items join keys ljust lower lstrip partition pop remove replace reverse rfind rjust rpartition rsplit rstrip "
    "setdefault split splitlines startswith strip update upper values zfill bit_length".split()
)
SPECIAL_METHODS = set("__init__ __eq__ __repr__ __str__ __len__".split())
BARRED_WORDS = (
    "type|typing|typing_extensions|enum|Enum|IntEnum|StrEnum|Flag|IntFlag|Generic|Protocol|ABC|ABCMeta|namedtuple|"
    "NamedTuple|TypedDict|TYPE_CHECKING|abstractmethod"
)


def sources():
    """The texts of the package's files, by their modules' names."""
    return {path.stem: path.read_text(encoding="utf-8") for path in sorted(PACKAGE.glob("*.py"))}


def trees():
    """The same, parsed."""
    return {name: ast.parse(text) for name, text in sources().items()}


def nodes(kind):
    """Pairs (module, node) of all nodes of a kind."""
    return [(name, node) for name, tree in trees().items() for node in ast.walk(tree) if isinstance(node, kind)]


class FilesTest(unittest.TestCase):
    def test_nothing_but_plain_files(self):
        for path in PACKAGE.iterdir():
            if path.name != "__pycache__":
                self.assertRegex(path.name, r"\A([a-z][a-z0-9_]*|__init__)\.py\Z")

    def test_signs_and_sizes(self):
        for name, text in sources().items():
            with self.subTest(name):
                self.assertIsNone(re.search(r"[^ -~\n]", text))
                self.assertLessEqual(len(text.splitlines()), 400)
                self.assertLessEqual(max([len(line) for line in text.splitlines()], default=0), 120)

    def test_functions_are_small(self):
        for name, node in nodes(ast.FunctionDef):
            with self.subTest((name, node.name)):
                self.assertLessEqual(node.end_lineno - node.lineno + 1, 40)

    def test_barred_words(self):
        for name, text in sources().items():
            with self.subTest(name):
                self.assertIsNone(re.search(rf"\b({BARRED_WORDS})\b", text))
                self.assertIsNone(re.search("dataclass|overload|contextmanager", text))


class ImportsTest(unittest.TestCase):
    def test_no_plain_import(self):
        self.assertEqual(nodes(ast.Import), [])

    def test_names_come_from_the_very_file_that_defines_them(self):
        for name, node in nodes(ast.ImportFrom):
            with self.subTest((name, node.module)):
                self.assertEqual(node.level, 0)
                folder, dot, module = node.module.partition(".")
                self.assertEqual(folder, "callcoin")
                body = trees()[module].body
                there = [part.name for part in body if isinstance(part, (ast.FunctionDef, ast.ClassDef))]
                there += [part.targets[0].id for part in body if isinstance(part, ast.Assign)]
                for alias in node.names:
                    self.assertIn(alias.name, there)

    def test_no_two_files_import_from_each_other(self):
        needs = {name: set() for name in trees()}
        for name, node in nodes(ast.ImportFrom):
            needs[name].add(node.module.partition(".")[2])
        while needs:
            free = [name for name in needs if not needs[name] & set(needs)]
            self.assertTrue(free, f"these import each other: {sorted(needs)}")
            for name in free:
                del needs[name]


class CodeTest(unittest.TestCase):
    def test_builtins(self):
        for name, node in nodes(ast.Name):
            if node.id in dir(builtins):
                with self.subTest((name, node.lineno)):
                    self.assertIn(node.id, BUILTINS)
                    self.assertIsInstance(node.ctx, ast.Load)

    def test_no_floats_and_no_plain_division(self):
        self.assertEqual(nodes(ast.Div), [])
        self.assertEqual([node.lineno for name, node in nodes(ast.Constant) if isinstance(node.value, float)], [])

    def test_no_percent_sign_in_a_string(self):
        for name, node in nodes(ast.Constant):
            if isinstance(node.value, str):
                self.assertNotIn("%", node.value)

    def test_is_stands_only_with_none_and_truths(self):
        for name, node in nodes(ast.Compare):
            for sign, right in zip(node.ops, node.comparators):
                if isinstance(sign, (ast.Is, ast.IsNot)):
                    self.assertIn(ast.dump(right), [ast.dump(ast.Constant(x)) for x in (None, True, False)])

    def test_names_are_plain(self):
        for name, node in nodes((ast.Name, ast.arg, ast.Attribute, ast.FunctionDef, ast.ClassDef)):
            for field in ("id", "arg", "attr", "name"):
                word = getattr(node, field, "a")
                if word not in SPECIAL_METHODS:
                    self.assertRegex(word, r"\A[A-Za-z][A-Za-z0-9_]*\Z", (name, node.lineno))

    def test_no_name_is_both_a_method_and_an_attribute(self):
        methods = set()
        for name, node in nodes(ast.ClassDef):
            methods |= {part.name for part in node.body if isinstance(part, ast.FunctionDef)}
        stored = {node.attr for name, node in nodes(ast.Attribute) if isinstance(node.ctx, ast.Store)}
        self.assertEqual(methods & stored, set())

    def test_parameters_and_variables_do_not_hide_classes_imports_and_builtins(self):
        for name, tree in trees().items():
            barred = set(dir(builtins)) | {part.name for part in tree.body if isinstance(part, ast.ClassDef)}
            for part in tree.body:
                if isinstance(part, ast.ImportFrom):
                    barred |= {alias.asname or alias.name for alias in part.names}
            for node in ast.walk(tree):
                if isinstance(node, ast.arg):
                    self.assertNotIn(node.arg, barred, (name, node.lineno))
                if isinstance(node, ast.Name) and isinstance(node.ctx, ast.Store):
                    self.assertNotIn(node.id, barred, (name, node.lineno))

    def test_methods_are_own_ones_or_such_as_may_be_used(self):
        own = {node.name for name, node in nodes(ast.FunctionDef)}
        for name, node in nodes(ast.Call):
            if isinstance(node.func, ast.Attribute):
                self.assertIn(node.func.attr, own | BUILTIN_METHODS | {"__init__"}, (name, node.lineno))

    def test_no_generators_since_classes_have_their_own_equality(self):
        self.assertEqual(nodes((ast.GeneratorExp, ast.Yield, ast.YieldFrom)), [])

    def test_no_powers_but_of_written_numbers(self):
        for name, node in nodes(ast.BinOp):
            if isinstance(node.op, ast.Pow):
                self.assertIsInstance(node.right, ast.Constant, (name, node.lineno))

    def test_classes_are_not_passed_on(self):
        own = {node.name for name, node in nodes(ast.ClassDef)}
        for name, tree in trees().items():
            fine = set()
            for node in ast.walk(tree):
                if isinstance(node, ast.Call):
                    fine.add(node.func)
                    if isinstance(node.func, ast.Name) and node.func.id == "isinstance":
                        fine |= set(ast.walk(node.args[1]))
                if isinstance(node, ast.ClassDef):
                    fine |= set(node.bases)
                if isinstance(node, ast.ExceptHandler):
                    fine |= set(ast.walk(node.type))
            for node in ast.walk(tree):
                if isinstance(node, ast.Name) and node.id in own:
                    self.assertIn(node, fine, (name, node.lineno))


if __name__ == "__main__":
    unittest.main()
