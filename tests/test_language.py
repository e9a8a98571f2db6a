"""The package keeps to its small part of Python: what of the rules a plain reading can see."""

import ast
import builtins
import pathlib
import re
import unittest

ROOT = pathlib.Path(__file__).resolve().parent.parent
PACKAGE = ROOT / "dampfield"

OWN_NAMES = set(
    "len range enumerate zip min max sum abs sorted reversed int str bool list tuple dict set frozenset "
    "isinstance ord repr any all divmod Exception ValueError TypeError KeyError IndexError LookupError "
    "ZeroDivisionError ArithmeticError OverflowError RuntimeError NotImplementedError AttributeError "
    "StopIteration".split()
)
METHODS = set(
    "append clear copy count endswith extend find get index insert isalnum isalpha isdigit islower isspace "
    "isupper items join keys ljust lower lstrip partition pop remove replace reverse rfind rjust rpartition "
    "rsplit rstrip setdefault split splitlines startswith strip update upper values zfill bit_length".split()
)
UNUSED_NAMES = set(
    "register mro elements open input version_info with_traceback add_note attrgetter breakpoint builtins "
    "compile copyright credits delattr dir eval exec exit gc getattr globals hasattr help id importlib "
    "license locals methodcaller os quit setattr super type vars sys".split()
)
UNUSED_WORDS = (
    r"\b(type|typing|typing_extensions|enum|Enum|IntEnum|StrEnum|Flag|IntFlag|Generic|Protocol|ABC|ABCMeta|"
    r"namedtuple|NamedTuple|TypedDict|TYPE_CHECKING|abstractmethod)\b|dataclass|overload|contextmanager"
)
STATEMENTS = (
    ast.Assign, ast.AugAssign, ast.If, ast.While, ast.For, ast.Return, ast.Break, ast.Continue, ast.Pass,
    ast.Raise, ast.Try, ast.Expr, ast.FunctionDef, ast.ClassDef, ast.ImportFrom,
)
EXPRESSIONS = (
    ast.BoolOp, ast.BinOp, ast.UnaryOp, ast.Lambda, ast.IfExp, ast.Dict, ast.ListComp, ast.Compare, ast.Call,
    ast.FormattedValue, ast.JoinedStr, ast.Constant, ast.Attribute, ast.Subscript, ast.Name, ast.List,
    ast.Tuple, ast.Slice,
)
SPECIAL = ("__init__", "__eq__", "__repr__", "__str__", "__len__")


def sources():
    for path in sorted(PACKAGE.glob("*.py")):
        text = path.read_text(encoding="utf-8")
        yield path, text, ast.parse(text)


def nodes(tree, *kinds):
    return [node for node in ast.walk(tree) if isinstance(node, kinds)]


class Language(unittest.TestCase):
    def test_files(self):
        names = [path.name for path in PACKAGE.iterdir() if path.name != "__pycache__"]
        self.assertIn("__init__.py", names)
        for name in names:
            self.assertRegex(name, r"^[a-z_][a-z0-9_]*\.py$")

    def test_signs_sizes_and_words(self):
        for path, text, tree in sources():
            with self.subTest(file=path.name):
                self.assertRegex(text, r"\A[ -~\n]*\Z")
                self.assertLessEqual(len(text.splitlines()), 400)
                self.assertLessEqual(max(map(len, text.splitlines())), 120)
                self.assertIsNone(re.search(UNUSED_WORDS, text))
                for node in nodes(tree, ast.FunctionDef):
                    self.assertLessEqual(node.end_lineno - node.lineno + 1, 40, node.name)

    def test_the_top_of_a_file(self):
        for path, text, tree in sources():
            bound = []
            for place, node in enumerate(tree.body):
                with self.subTest(file=path.name, line=node.lineno):
                    if isinstance(node, ast.Expr):
                        self.assertEqual(place, 0)
                    elif isinstance(node, ast.ImportFrom):
                        self.assertEqual(node.level, 0)
                        self.assertTrue(node.module.startswith("dampfield."))
                        bound += [alias.asname or alias.name for alias in node.names]
                    elif isinstance(node, ast.Assign):
                        bound.append(node.targets[0].id)
                    else:
                        self.assertIsInstance(node, (ast.FunctionDef, ast.ClassDef))
                        bound.append(node.name)
            self.assertEqual(len(bound), len(set(bound)), path.name)

    def test_imports_name_the_file_that_defines_and_go_round_nowhere(self):
        drawn = {}
        defined = {}
        for path, text, tree in sources():
            name = "dampfield." + path.stem
            drawn[name] = {node.module: [a.name for a in node.names] for node in nodes(tree, ast.ImportFrom)}
            defined[name] = [n.name for n in tree.body if isinstance(n, (ast.FunctionDef, ast.ClassDef))]
            defined[name] += [n.targets[0].id for n in tree.body if isinstance(n, ast.Assign)]
        for name, origins in drawn.items():
            for origin, taken in origins.items():
                self.assertLessEqual(set(taken), set(defined[origin]), name)
        settled = set()
        while len(settled) < len(drawn):
            ready = [name for name in drawn if name not in settled and set(drawn[name]) <= settled]
            self.assertNotEqual(ready, [], "files draw from one another")
            settled.update(ready)

    def test_statements_and_expressions(self):
        for path, text, tree in sources():
            for node in nodes(tree, ast.stmt, ast.expr):
                with self.subTest(file=path.name, line=node.lineno):
                    self.assertIsInstance(node, STATEMENTS + EXPRESSIONS)
                    if isinstance(node, ast.Constant):
                        self.assertIn(type(node.value), (int, str, bool, type(None)))
                    if isinstance(node, ast.Assign):
                        self.assertEqual(len(node.targets), 1)
                        self.assertNotIsInstance(node.targets[0], (ast.Tuple, ast.List))
                    if isinstance(node, (ast.For, ast.While)):
                        self.assertEqual(node.orelse, [])
                    if isinstance(node, ast.Try):
                        self.assertEqual(node.finalbody, [])
                    if isinstance(node, ast.ListComp):
                        self.assertEqual(len(node.generators), 1)
                        self.assertLessEqual(len(node.generators[0].ifs), 1)
                    if isinstance(node, ast.BinOp):
                        self.assertNotIsInstance(node.op, (ast.Div, ast.MatMult, ast.Pow))
                    if isinstance(node, ast.Compare) and isinstance(node.ops[0], (ast.Is, ast.IsNot)):
                        self.assertIn(getattr(node.comparators[0], "value", 0), (None, True, False))
                    if isinstance(node, ast.Raise):
                        self.assertIsInstance(node.exc, ast.Call)

    def test_functions_and_classes(self):
        for path, text, tree in sources():
            for node in nodes(tree, ast.FunctionDef):
                with self.subTest(file=path.name, function=node.name):
                    given = node.args
                    self.assertEqual(node.decorator_list, [])
                    self.assertEqual((given.vararg, given.kwarg), (None, None))
                    self.assertEqual((given.kwonlyargs, given.posonlyargs), ([], []))
            for node in nodes(tree, ast.ClassDef):
                with self.subTest(file=path.name, kind=node.name):
                    self.assertIn(node, tree.body)
                    self.assertLessEqual(len(node.bases), 1)
                    self.assertEqual((node.decorator_list, node.keywords), ([], []))
                    for inner in node.body:
                        self.assertIsInstance(inner, (ast.FunctionDef, ast.Pass))

    def test_names(self):
        for path, text, tree in sources():
            taken = [alias.asname or alias.name for n in nodes(tree, ast.ImportFrom) for alias in n.names]
            taken += [node.name for node in nodes(tree, ast.ClassDef)]
            bound = [node.arg for node in nodes(tree, ast.arg)]
            bound += [n.id for n in nodes(tree, ast.Name) if isinstance(n.ctx, ast.Store)]
            defined = [node.name for node in nodes(tree, ast.FunctionDef) if node.name not in SPECIAL]
            read = [n.id for n in nodes(tree, ast.Name) if isinstance(n.ctx, ast.Load)]
            with self.subTest(file=path.name):
                for name in taken + bound + defined:
                    self.assertRegex(name, r"^[A-Za-z][A-Za-z0-9_]*$")
                    self.assertFalse(hasattr(builtins, name), name)
                self.assertEqual([name for name in bound if name in taken], [])
                self.assertEqual([name for name in bound + defined + read if name in UNUSED_NAMES], [])
                self.assertEqual([n for n in read if hasattr(builtins, n) and n not in OWN_NAMES], [])

    def test_no_name_is_a_method_and_a_value(self):
        methods, values = [], []
        for path, text, tree in sources():
            for kind in nodes(tree, ast.ClassDef):
                methods += [inner.name for inner in nodes(kind, ast.FunctionDef)]
            values += [n.attr for n in nodes(tree, ast.Attribute) if isinstance(n.ctx, ast.Store)]
        self.assertIn("rows", values)
        self.assertIn("uncover", methods)
        self.assertEqual([name for name in values if name in methods], [])
        for name in values:
            for kind in (str, int, list, tuple, dict, set, bytes):
                self.assertFalse(hasattr(kind, name), name)

    def test_methods_are_those_that_are_free(self):
        own = set()
        for path, text, tree in sources():
            for node in nodes(tree, ast.ClassDef):
                own |= {inner.name for inner in node.body if isinstance(inner, ast.FunctionDef)}
        for path, text, tree in sources():
            for node in nodes(tree, ast.Call):
                if isinstance(node.func, ast.Attribute):
                    self.assertIn(node.func.attr, METHODS | own, path.name)


if __name__ == "__main__":
    unittest.main()
