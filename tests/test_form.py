"""LANGUAGE.md, as far as a look at the written files can tell it; and [1]: no clock, chance or file."""

import ast
import builtins
import pathlib
import re
import unittest

PACKAGE = pathlib.Path(__file__).resolve().parent.parent / "webdown"

OWN_NAMES_OF_PYTHON = set(
    "len range enumerate zip min max sum abs sorted reversed int str bool list tuple dict set frozenset"
    " isinstance ord repr any all divmod Exception ValueError TypeError KeyError IndexError LookupError"
    " ZeroDivisionError ArithmeticError OverflowError RuntimeError NotImplementedError AttributeError"
    " StopIteration".split()
)

METHODS = set(
    "append clear copy count endswith extend find get index insert isalnum isalpha isdigit islower isspace"
    " isupper items join keys ljust lower lstrip partition pop remove replace reverse rfind rjust rpartition"
    " rsplit rstrip setdefault split splitlines startswith strip update upper values zfill bit_length".split()
)

OTHER_METHODS_OF_PYTHON = {
    name for kind in (int, str, list, tuple, dict, set, bytes) for name in dir(kind) if not name.startswith("_")
} - METHODS

WORDS_THAT_STAND_NOWHERE = re.compile(
    r"\b(type|typing|typing_extensions|enum|Enum|IntEnum|StrEnum|Flag|IntFlag|Generic|Protocol|ABC|ABCMeta"
    r"|namedtuple|NamedTuple|TypedDict|TYPE_CHECKING|abstractmethod)\b|dataclass|overload|contextmanager"
)

LEFT_OUT = (
    ast.Import,
    ast.With,
    ast.Match,
    ast.Delete,
    ast.Global,
    ast.Nonlocal,
    ast.Assert,
    ast.Yield,
    ast.YieldFrom,
    ast.Await,
    ast.AsyncFunctionDef,
    ast.AsyncFor,
    ast.AsyncWith,
    ast.NamedExpr,
    ast.Starred,
    ast.SetComp,
    ast.DictComp,
    ast.GeneratorExp,
)


def files():
    return sorted(path for path in PACKAGE.rglob("*") if "__pycache__" not in path.parts)


def trees():
    return [(path.name, ast.parse(path.read_text(encoding="utf-8"))) for path in files()]


def nodes(kinds):
    return [(name, node) for name, tree in trees() for node in ast.walk(tree) if isinstance(node, kinds)]


class TestFiles(unittest.TestCase):
    def test_only_plain_files_lie_in_the_package(self):
        self.assertIn(PACKAGE / "__init__.py", files())
        for path in files():
            with self.subTest(path.name):
                self.assertTrue(path.is_file())
                self.assertRegex(path.name, r"^([a-z][a-z0-9_]*|__init__)\.py$")

    def test_signs_and_sizes(self):
        for path in files():
            text = path.read_text(encoding="utf-8")
            with self.subTest(path.name):
                self.assertRegex(text, r"\A[ -~\n]*\Z")
                self.assertLessEqual(len(text.splitlines()), 400)
                self.assertLessEqual(max(len(line) for line in text.splitlines()), 120)

    def test_words_that_stand_nowhere(self):
        for path in files():
            with self.subTest(path.name):
                self.assertIsNone(WORDS_THAT_STAND_NOWHERE.search(path.read_text(encoding="utf-8")))


def drawn_from():
    """For each file the names that it draws from each other file."""
    drawn = {path.stem: {} for path in files()}
    for name, node in nodes(ast.ImportFrom):
        drawn[name.removesuffix(".py")][node.module.removeprefix("webdown.")] = [each.name for each in node.names]
    return drawn


class TestImports(unittest.TestCase):
    def test_each_name_is_drawn_from_the_file_that_defines_it(self):
        for file, others in drawn_from().items():
            for other, names in others.items():
                tree = dict(trees())[f"{other}.py"]
                defined = {node.name for node in tree.body if isinstance(node, (ast.FunctionDef, ast.ClassDef))}
                for node in tree.body:
                    if isinstance(node, ast.Assign):
                        defined.add(node.targets[0].id)
                with self.subTest(file=file, other=other):
                    self.assertLessEqual(set(names), defined)

    def test_no_two_files_draw_from_one_another(self):
        drawn = {file: set(others) for file, others in drawn_from().items()}
        # Those that draw from none of the others left are taken away, until none is left or each draws.
        while any(not others & set(drawn) for others in drawn.values()):
            drawn = {file: others for file, others in drawn.items() if others & set(drawn)}
        self.assertEqual(drawn, {})

    def test_each_drawn_name_is_used(self):
        for name, tree in trees():
            used = {node.id for node in ast.walk(tree) if isinstance(node, ast.Name)}
            for names in drawn_from()[name.removesuffix(".py")].values():
                with self.subTest(file=name):
                    self.assertLessEqual(set(names), used)

    def test_no_local_is_called_like_an_import_or_a_def_of_its_file(self):
        for name, tree in trees():
            tops = {node.name for node in tree.body if isinstance(node, (ast.FunctionDef, ast.ClassDef))}
            for names in drawn_from()[name.removesuffix(".py")].values():
                tops.update(names)
            for function in [node for node in ast.walk(tree) if isinstance(node, ast.FunctionDef)]:
                bound = {node.arg for node in ast.walk(function) if isinstance(node, ast.arg)}
                for node in ast.walk(function):
                    if isinstance(node, ast.Name) and isinstance(node.ctx, ast.Store):
                        bound.add(node.id)
                with self.subTest(file=name, function=function.name):
                    self.assertEqual(bound & tops, set())


class TestStatements(unittest.TestCase):
    def test_imports_are_the_packages_own(self):
        for name, node in nodes(ast.ImportFrom):
            with self.subTest(file=name, line=node.lineno):
                self.assertEqual(node.level, 0)
                self.assertRegex(node.module, r"^webdown\.[a-z_]+$")
                for drawn in node.names:
                    self.assertNotEqual(drawn.name, "*")

    def test_nothing_of_what_is_left_out(self):
        self.assertEqual([(name, node.lineno) for name, node in nodes(LEFT_OUT)], [])
        self.assertEqual(nodes((ast.Div, ast.MatMult)), [])

    def test_values_are_no_floats_and_no_bytes(self):
        for name, node in nodes(ast.Constant):
            with self.subTest(file=name, line=node.lineno):
                self.assertIn(type(node.value), (int, str, bool, type(None)))

    def test_texts_are_plain(self):
        for name, node in nodes(ast.FormattedValue):
            with self.subTest(file=name, line=node.lineno):
                self.assertIsInstance(node.value, ast.Name)
                self.assertIsNone(node.format_spec)
        for name, node in nodes(ast.Constant):
            with self.subTest(file=name, line=node.lineno):
                self.assertNotIn("%", str(node.value))

    def test_one_target_and_no_else_behind_a_loop(self):
        self.assertEqual([name for name, node in nodes(ast.Assign) if len(node.targets) != 1], [])
        self.assertEqual([name for name, node in nodes((ast.For, ast.While)) if node.orelse], [])
        self.assertEqual([name for name, node in nodes(ast.Try) if node.finalbody], [])

    def test_a_comprehension_has_one_for_and_at_most_one_if(self):
        for name, node in nodes(ast.ListComp):
            with self.subTest(file=name, line=node.lineno):
                self.assertEqual(len(node.generators), 1)
                self.assertLessEqual(len(node.generators[0].ifs), 1)

    def test_is_stands_beside_none_and_truths_alone(self):
        for name, node in nodes(ast.Compare):
            for sign, right in zip(node.ops, node.comparators):
                if isinstance(sign, (ast.Is, ast.IsNot)):
                    with self.subTest(file=name, line=node.lineno):
                        self.assertIsInstance(right, ast.Constant)
                        self.assertIn(right.value, (None, True, False))


def is_plain(node, functions):
    if isinstance(node, (ast.Tuple, ast.List)):
        return all(is_plain(each, functions) for each in node.elts)
    if isinstance(node, ast.Dict):
        return all(is_plain(each, functions) for each in node.keys + node.values)
    return isinstance(node, ast.Constant) or isinstance(node, ast.Name) and node.id in functions


class TestTops(unittest.TestCase):
    def test_plain_values_functions_and_classes_alone_each_name_once(self):
        for name, tree in trees():
            bound, functions = [], []
            for spot, node in enumerate(tree.body):
                with self.subTest(file=name, line=node.lineno):
                    if isinstance(node, ast.ImportFrom):
                        bound += [each.name for each in node.names]
                    elif isinstance(node, ast.Assign):
                        self.assertTrue(is_plain(node.value, functions))
                        bound.append(node.targets[0].id)
                    elif isinstance(node, ast.Expr):
                        self.assertEqual((spot, type(node.value)), (0, ast.Constant))
                    else:
                        self.assertIsInstance(node, (ast.FunctionDef, ast.ClassDef))
                        bound.append(node.name)
                        functions.append(node.name)
            with self.subTest(file=name):
                self.assertEqual(len(bound), len(set(bound)))


WALKED_AT_ONCE = ("zip", "enumerate", "reversed", "range")


class TestWalks(unittest.TestCase):
    def test_walked_on_the_spot(self):
        for name, tree in trees():
            walked = []
            for node in ast.walk(tree):
                if isinstance(node, (ast.For, ast.comprehension)):
                    walked.append(node.iter)
                elif isinstance(node, ast.Call) and isinstance(node.func, ast.Name):
                    walked += node.args if node.func.id in ("min", "max") else node.args[:1]
            for node in ast.walk(tree):
                if isinstance(node, ast.Call) and getattr(node.func, "id", None) in WALKED_AT_ONCE:
                    with self.subTest(file=name, line=node.lineno):
                        self.assertTrue(any(node is each for each in walked))


def is_set(node):
    return isinstance(node, ast.Call) and isinstance(node.func, ast.Name) and node.func.id in ("set", "frozenset")


def joined_values(node):
    """The values that signs such as & and - join, or the one value itself."""
    if isinstance(node, ast.BinOp):
        return joined_values(node.left) + joined_values(node.right)
    return [node]


class TestSets(unittest.TestCase):
    def test_a_set_is_neither_kept_nor_walked(self):
        for name, tree in trees():
            asked = []
            for node in ast.walk(tree):
                if isinstance(node, ast.Compare):
                    asked += [node.left, *node.comparators]
                elif isinstance(node, ast.Call) and getattr(node.func, "id", None) in ("sorted", "len"):
                    asked += node.args
            right = [value for node in asked for value in joined_values(node)]
            for node in ast.walk(tree):
                if is_set(node):
                    with self.subTest(file=name, line=node.lineno):
                        self.assertTrue(any(node is each for each in right))


class TestDefs(unittest.TestCase):
    def test_functions_are_small_and_plain(self):
        for name, node in nodes(ast.FunctionDef):
            with self.subTest(file=name, function=node.name):
                self.assertLessEqual(node.end_lineno - node.lineno + 1, 40)
                self.assertEqual(node.decorator_list, [])
                self.assertIsNone(node.args.vararg)
                self.assertIsNone(node.args.kwarg)
                self.assertEqual(node.args.kwonlyargs, [])

    def test_classes_are_plain(self):
        for name, node in nodes(ast.ClassDef):
            with self.subTest(file=name, line=node.lineno):
                self.assertEqual(node.decorator_list, [])
                self.assertLessEqual(len(node.bases), 1)
                for inner in node.body:
                    self.assertIsInstance(inner, (ast.FunctionDef, ast.Pass))


class TestNames(unittest.TestCase):
    def test_names_of_python_are_the_listed_ones(self):
        for name, node in nodes(ast.Name):
            if hasattr(builtins, node.id):
                with self.subTest(file=name, line=node.lineno):
                    self.assertIn(node.id, OWN_NAMES_OF_PYTHON)
                    self.assertIsInstance(node.ctx, ast.Load)

    def test_names_do_not_begin_with_an_underscore(self):
        bound = [(name, node.id) for name, node in nodes(ast.Name)]
        bound += [(name, node.arg) for name, node in nodes(ast.arg)]
        bound += [(name, node.name) for name, node in nodes(ast.FunctionDef) if node.name != "__init__"]
        for name, word in bound:
            with self.subTest(file=name, word=word):
                self.assertRegex(word, r"^[A-Za-z][A-Za-z0-9_]*$")

    def test_methods_are_the_listed_ones(self):
        for name, node in nodes(ast.Attribute):
            with self.subTest(file=name, line=node.lineno):
                self.assertNotIn(node.attr, OTHER_METHODS_OF_PYTHON - {"add", "discard", "title"})

    def test_parameters_are_not_called_like_names_of_python(self):
        for name, node in nodes(ast.arg):
            with self.subTest(file=name, line=node.lineno):
                self.assertFalse(hasattr(builtins, node.arg), node.arg)
