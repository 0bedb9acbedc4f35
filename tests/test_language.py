"""The package's files against those rules of ../shared/LANGUAGE.md that a walk of the code can see."""

import ast
import builtins
import pathlib
import re
import unittest

PACKAGE = pathlib.Path(__file__).resolve().parent.parent / "leastrepairs"
FILES = sorted(PACKAGE.glob("*.py"))

OWN_NAMES = set(
    "len range enumerate zip min max sum abs sorted reversed int str bool list tuple dict set frozenset isinstance "
    "ord repr any all divmod Exception ValueError TypeError KeyError IndexError LookupError ZeroDivisionError "
    "ArithmeticError OverflowError RuntimeError NotImplementedError AttributeError StopIteration".split())
METHODS = set(
    "append clear copy count endswith extend find get index insert isalnum isalpha isdigit islower isspace isupper "
    "items join keys ljust lower lstrip partition pop remove replace reverse rfind rjust rpartition rsplit rstrip "
    "setdefault split splitlines startswith strip update upper values zfill bit_length".split())
NODES = set(
    "Module FunctionDef arguments arg ClassDef Import ImportFrom alias Return Assign AugAssign For While If Raise Try "
    "ExceptHandler Expr Pass Break Continue BoolOp And Or BinOp Add Sub Mult FloorDiv Mod Pow LShift RShift BitOr "
    "BitXor BitAnd UnaryOp Invert Not UAdd USub Lambda IfExp Dict Set ListComp comprehension Compare Eq NotEq Lt LtE "
    "Gt GtE Is IsNot In NotIn Call keyword FormattedValue JoinedStr Constant Attribute Subscript Slice Name List "
    "Tuple Load Store".split())
WORDS = set(
    "type typing typing_extensions enum Enum IntEnum StrEnum Flag IntFlag Generic Protocol ABC ABCMeta namedtuple "
    "NamedTuple TypedDict TYPE_CHECKING abstractmethod".split())
UNUSED = set("register mro elements open input version_info with_traceback add_note format format_map".split())
WALKED = {"zip", "enumerate", "reversed", "range"}
WALKERS = {"list", "tuple", "dict", "sorted", "sum", "any", "all", "enumerate", "zip", "min", "max"}
TAKEN_VALUES = {name for kind in (str, int, list, dict, set, bytes, tuple) for name in dir(kind)}
FREE_VALUES = set("count index title find get join lower upper split strip copy add".split())


def nodes(file, *kinds):
    return [node for node in ast.walk(ast.parse(file.read_text())) if isinstance(node, kinds)]


class Language(unittest.TestCase):
    def each(self, check, *kinds):
        for file in FILES:
            for node in nodes(file, *kinds):
                with self.subTest(file=file.name, line=getattr(node, "lineno", 0)):
                    check(node)

    def test_files(self):
        inside = [path.name for path in PACKAGE.iterdir() if path.name != "__pycache__"]
        self.assertEqual(sorted(inside), [file.name for file in FILES])
        for file in FILES:
            self.assertRegex(file.name, r"^(__init__|__main__|[a-z][a-z0-9_]*)\.py$")
            self.assertFalse(file.stem in dir(builtins) or file.stem in WORDS)

    def test_signs_words_and_size(self):
        for file in FILES:
            lines = file.read_text().split("\n")
            self.assertLessEqual(len(lines), 400)
            for number, line in enumerate(lines, start=1):
                with self.subTest(file=file.name, line=number):
                    self.assertRegex(line, r"^[ -~]{0,120}$")
                    self.assertEqual(set(re.findall(r"\w+", line)) & WORDS, set())
                    self.assertNotRegex(line, "dataclass|overload|contextmanager")

    def test_functions_are_short_and_plain(self):
        def check(node):
            self.assertLessEqual(node.end_lineno - node.lineno + 1, 40)
            rest = node.args
            self.assertFalse(rest.vararg or rest.kwarg or rest.kwonlyargs or rest.posonlyargs or node.decorator_list)
            self.assertFalse(node.returns or [arg for arg in rest.args if arg.annotation])

        self.each(check, ast.FunctionDef)

    def test_only_told_statements_and_expressions(self):
        def check(node):
            self.assertIn(node.__class__.__name__, NODES)
            if isinstance(node, (ast.For, ast.While)):
                self.assertEqual(node.orelse, [])
            if isinstance(node, ast.Assign):
                self.assertEqual(len(node.targets), 1)
            if isinstance(node, ast.ListComp):
                self.assertEqual(len(node.generators), 1)
                self.assertLessEqual(len(node.generators[0].ifs), 1)
            if isinstance(node, ast.Try):
                self.assertEqual(node.finalbody, [])
            if isinstance(node, ast.Constant):
                self.assertNotIsInstance(node.value, (float, complex, bytes))
            if isinstance(node, ast.Expr) and not isinstance(node.value, ast.Call):
                self.assertEqual(node.lineno, 1, "only a file's first row may be a text by itself")

        self.each(check, ast.AST)

    def test_imports(self):
        def check(node):
            self.assertIsInstance(node, ast.ImportFrom)
            self.assertEqual(node.level, 0)
            self.assertRegex(node.module, r"^leastrepairs\.[a-z]+$")
            source = ast.parse((PACKAGE / (node.module.split(".")[1] + ".py")).read_text())
            defined = {inner.name for inner in source.body if isinstance(inner, (ast.FunctionDef, ast.ClassDef))}
            defined |= {inner.targets[0].id for inner in source.body if isinstance(inner, ast.Assign)}
            self.assertLessEqual({alias.name for alias in node.names}, defined)

        self.each(check, ast.Import, ast.ImportFrom)

    def test_no_two_files_draw_from_one_another(self):
        draws = {file.stem: {node.module.split(".")[1] for node in nodes(file, ast.ImportFrom)} for file in FILES}
        while draws:
            free = [name for name, others in draws.items() if not others & set(draws)]
            self.assertTrue(free, draws)
            for name in free:
                draws.pop(name)

    def test_names(self):
        def check(node):
            name = getattr(node, "id", None) or getattr(node, "arg", None) or getattr(node, "attr", None) or node.name
            if name != "__init__":
                self.assertRegex(name, r"^[A-Za-z][A-Za-z0-9_]*$")
            self.assertNotIn(name, UNUSED)
            stored = isinstance(node, (ast.arg, ast.FunctionDef, ast.ClassDef)) or (
                isinstance(node, ast.Name) and isinstance(node.ctx, ast.Store))
            if stored and name != "__init__":
                self.assertNotIn(name, dir(builtins))
            elif isinstance(node, ast.Name) and name in dir(builtins):
                self.assertIn(name, OWN_NAMES)

        self.each(check, ast.Name, ast.arg, ast.Attribute, ast.FunctionDef, ast.ClassDef)

    def test_each_name_once_at_the_top(self):
        for file in FILES:
            top = ast.parse(file.read_text()).body
            names = []
            for node in top:
                if isinstance(node, (ast.FunctionDef, ast.ClassDef)):
                    names.append(node.name)
                elif isinstance(node, ast.ImportFrom):
                    names += [alias.name for alias in node.names]
                elif isinstance(node, ast.Assign):
                    names.append(node.targets[0].id)
                    ast.literal_eval(node.value)
            self.assertEqual(len(names), len(set(names)), file.name)
            local = {node.id for node in nodes(file, ast.Name) if isinstance(node.ctx, ast.Store)}
            local |= {node.arg for node in nodes(file, ast.arg)}
            made = {node.name for node in top if isinstance(node, ast.ClassDef)}
            made |= {alias.name for node in top if isinstance(node, ast.ImportFrom) for alias in node.names}
            self.assertEqual(local & made, set(), file.name)

    def test_methods_and_values(self):
        methods = {inner.name for file in FILES for node in nodes(file, ast.ClassDef) for inner in node.body
                   if isinstance(inner, ast.FunctionDef)}
        values = {node.attr for file in FILES for node in nodes(file, ast.Attribute) if isinstance(node.ctx, ast.Store)}
        self.assertEqual(methods & values, set())
        self.assertEqual((values & TAKEN_VALUES) - FREE_VALUES, set())
        self.assertEqual((methods & TAKEN_VALUES) - METHODS - {"__init__", "add", "discard"}, set())

        def check(node):
            if isinstance(node.func, ast.Attribute):
                self.assertIn(node.func.attr, METHODS | methods)

        self.each(check, ast.Call)

    def test_classes(self):
        def check(node):
            self.assertLessEqual(len(node.bases), 1)
            self.assertFalse(node.decorator_list or node.keywords)
            for inner in node.body:
                self.assertIsInstance(inner, (ast.FunctionDef, ast.Pass))

        self.each(check, ast.ClassDef)

    def test_what_is_walked_on_the_spot(self):
        for file in FILES:
            tree = ast.parse(file.read_text())
            walked = set()
            for node in ast.walk(tree):
                if isinstance(node, (ast.For, ast.comprehension)):
                    walked.add(node.iter)
                elif isinstance(node, ast.Call) and isinstance(node.func, ast.Name) and node.func.id in WALKERS:
                    walked.update(node.args)
            for node in ast.walk(tree):
                if isinstance(node, ast.Call):
                    name = getattr(node.func, "id", None) or getattr(node.func, "attr", None)
                    if name in WALKED | {"items", "keys", "values"}:
                        self.assertIn(node, walked, f"{file.name}, line {node.lineno}")

    def test_is_and_powers(self):
        def check(node):
            if isinstance(node, ast.BinOp) and isinstance(node.op, ast.Pow):
                self.assertIsInstance(node.right, ast.Constant)
            if isinstance(node, ast.Compare) and isinstance(node.ops[0], (ast.Is, ast.IsNot)):
                self.assertIn(getattr(node.comparators[0], "value", 0), (None, True, False))

        self.each(check, ast.Compare, ast.BinOp)


if __name__ == "__main__":
    unittest.main()
