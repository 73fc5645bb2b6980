"""The package's own files keep to the small part of Python that the program is written in.

Not every rule can be seen from a file's text alone; these are the ones that can, by their numbers.
"""

import ast
import builtins
import pathlib
import re
import unittest

PACKAGE = pathlib.Path(__file__).resolve().parent.parent / "notekeep"

STATEMENTS = (
    ast.FunctionDef, ast.ClassDef, ast.ImportFrom, ast.Assign, ast.AugAssign, ast.If, ast.While, ast.For,
    ast.Return, ast.Break, ast.Continue, ast.Pass, ast.Raise, ast.Try, ast.Expr,
)
EXPRESSIONS = (
    ast.Constant, ast.List, ast.Tuple, ast.Dict, ast.Set, ast.BinOp, ast.UnaryOp, ast.BoolOp, ast.Compare,
    ast.IfExp, ast.Call, ast.Attribute, ast.Subscript, ast.Slice, ast.ListComp, ast.JoinedStr,
    ast.FormattedValue, ast.Name, ast.Lambda,
)
OPERATORS_OUT = (ast.Div, ast.MatMult)
PYTHONS_OWN = set("""
    len range enumerate zip min max sum abs sorted reversed int str bool list tuple dict set frozenset isinstance
    ord repr any all divmod Exception ValueError TypeError KeyError IndexError LookupError ZeroDivisionError
    ArithmeticError OverflowError RuntimeError NotImplementedError AttributeError StopIteration
""".split())
METHODS = set("""
    append clear copy count endswith extend find get index insert isalnum isalpha isdigit islower isspace isupper
    items join keys ljust lower lstrip partition pop remove replace reverse rfind rjust rpartition rsplit rstrip
    setdefault split splitlines startswith strip update upper values zfill bit_length
""".split())
WALKED = {"zip", "enumerate", "reversed", "range", "items", "keys", "values"}
WALKING = {"list", "tuple", "dict", "sorted", "sum", "any", "all", "enumerate", "zip", "min", "max", "join"}
SPECIAL_METHODS = {"__init__", "__eq__", "__repr__", "__str__", "__len__"}
NAMES_OUT = set("""
    register mro elements open input version_info with_traceback add_note attrgetter breakpoint builtins compile
    copyright credits delattr dir eval exec exit gc getattr globals hasattr help id importlib license locals
    methodcaller os quit setattr super vars sys __name__
""".split())
WORDS_OUT = re.compile(
    r"\b(type|typing|typing_extensions|enum|Enum|IntEnum|StrEnum|Flag|IntFlag|Generic|Protocol|ABC|ABCMeta"
    r"|namedtuple|NamedTuple|TypedDict|TYPE_CHECKING|abstractmethod)\b|dataclass|overload|contextmanager"
)


def docstring_of(tree):
    return tree.body[:1] if ast.get_docstring(tree) is not None else []


def is_plain(node):
    if isinstance(node, ast.UnaryOp):
        return isinstance(node.op, ast.USub) and is_plain(node.operand)
    if isinstance(node, (ast.List, ast.Tuple)):
        return all(is_plain(part) for part in node.elts)
    if isinstance(node, ast.Dict):
        return all(is_plain(part) for part in node.keys + node.values)
    return isinstance(node, (ast.Constant, ast.Name))


def bound_names(tree):
    for node in ast.walk(tree):
        if isinstance(node, ast.Name) and isinstance(node.ctx, ast.Store):
            yield node, node.id
        elif isinstance(node, ast.arg):
            yield node, node.arg
        elif isinstance(node, (ast.FunctionDef, ast.ClassDef)):
            yield node, node.name
        elif isinstance(node, ast.Attribute):
            yield node, node.attr


def top_names(tree):
    names = []
    for node in tree.body:
        if isinstance(node, (ast.FunctionDef, ast.ClassDef)):
            names.append(node.name)
        elif isinstance(node, ast.Assign):
            names.extend(target.id for target in node.targets)
        elif isinstance(node, ast.ImportFrom):
            names.extend(alias.asname or alias.name for alias in node.names)
    return names


def classes_and_imports(tree):
    names = {node.name for node in tree.body if isinstance(node, ast.ClassDef)}
    for node in tree.body:
        if isinstance(node, ast.ImportFrom):
            names.update(alias.asname or alias.name for alias in node.names)
    return names


class LanguageTest(unittest.TestCase):
    def setUp(self):
        self.files = sorted(PACKAGE.glob("*.py"))
        self.texts = {path.stem: path.read_text(encoding="utf-8") for path in self.files}
        self.trees = {name: ast.parse(text) for name, text in self.texts.items()}

    def each_node(self, *kinds):
        for name, tree in self.trees.items():
            for node in ast.walk(tree):
                if isinstance(node, kinds):
                    yield name, node

    def each_pair(self, kind):
        for name, tree in self.trees.items():
            for above in ast.walk(tree):
                for node in ast.iter_child_nodes(above):
                    if isinstance(node, kind):
                        yield name, node, above

    def where(self, name, node):
        return f"{name}.py, line {getattr(node, 'lineno', '?')}"

    def test_files(self):
        inside = [path.name for path in PACKAGE.iterdir() if path.name != "__pycache__"]
        self.assertIn("__init__.py", inside)
        for name in inside:
            self.assertRegex(name, r"^([a-z][a-z0-9_]*|__init__|__main__)\.py$")

    def test_l2_l16_imports(self):
        for name, node in self.each_node(ast.Import):
            self.fail(self.where(name, node))
        for name, node in self.each_node(ast.ImportFrom):
            place = self.where(name, node)
            self.assertEqual(node.level, 0, place)
            self.assertTrue(node.module.startswith("notekeep."), place)
            other = node.module.split(".", 1)[1]
            defined = {one.name for one in self.trees[other].body if isinstance(one, (ast.FunctionDef, ast.ClassDef))}
            defined.update(target.id for one in self.trees[other].body if isinstance(one, ast.Assign) for target in one.targets)
            for alias in node.names:
                self.assertIn(alias.name, defined, place)

    def test_l16_no_two_files_draw_from_one_another(self):
        draws = {name: set() for name in self.trees}
        for name, node in self.each_node(ast.ImportFrom):
            draws[name].add(node.module.split(".", 1)[1])
        left = dict(draws)
        while left:
            free = [name for name in left if not draws[name] & set(left)]
            self.assertTrue(free, left)
            left = {name: left[name] for name in left if name not in free}

    def test_l3_l15_the_top_of_a_module(self):
        for name, tree in self.trees.items():
            for node in tree.body:
                if node in docstring_of(tree) or isinstance(node, (ast.ImportFrom, ast.FunctionDef, ast.ClassDef)):
                    continue
                self.assertIsInstance(node, ast.Assign, self.where(name, node))
                self.assertTrue(is_plain(node.value), self.where(name, node))
            names = top_names(tree)
            self.assertEqual(len(names), len(set(names)), name)

    def test_l4_functions(self):
        for name, node in self.each_node(ast.FunctionDef, ast.Lambda):
            place = self.where(name, node)
            self.assertIsNone(node.args.vararg, place)
            self.assertIsNone(node.args.kwarg, place)
            self.assertEqual(node.args.kwonlyargs + node.args.posonlyargs, [], place)
            self.assertEqual(getattr(node, "decorator_list", []), [], place)

    def test_l5_classes(self):
        for name, node in self.each_node(ast.ClassDef):
            place = self.where(name, node)
            self.assertEqual(node.decorator_list + node.keywords, [], place)
            self.assertLessEqual(len(node.bases), 1, place)
            for inner in node.body:
                self.assertIsInstance(inner, (ast.FunctionDef, ast.Pass), place)
                if isinstance(inner, ast.FunctionDef) and inner.name.startswith("__"):
                    self.assertIn(inner.name, SPECIAL_METHODS, place)

    def test_l6_statements(self):
        for name, node in self.each_node(ast.stmt):
            place = self.where(name, node)
            self.assertIsInstance(node, STATEMENTS, place)
            if isinstance(node, (ast.While, ast.For)):
                self.assertEqual(node.orelse, [], place)
            if isinstance(node, ast.Try):
                self.assertEqual(node.finalbody, [], place)
            if isinstance(node, ast.Assign):
                self.assertEqual(len(node.targets), 1, place)
                self.assertNotIsInstance(node.targets[0], (ast.Tuple, ast.List), place)
            if isinstance(node, ast.Expr) and node not in docstring_of(self.trees[name]):
                self.assertIsInstance(node.value, ast.Call, place)

    def test_l7_expressions(self):
        for name, node in self.each_node(ast.expr):
            place = self.where(name, node)
            self.assertIsInstance(node, EXPRESSIONS, place)
            if isinstance(node, ast.Constant):
                self.assertIsInstance(node.value, (int, str, type(None)), place)
            if isinstance(node, ast.BinOp):
                self.assertNotIsInstance(node.op, OPERATORS_OUT, place)
            if isinstance(node, ast.ListComp):
                self.assertEqual(len(node.generators), 1, place)
                self.assertLessEqual(len(node.generators[0].ifs), 1, place)
            if isinstance(node, ast.FormattedValue):
                self.assertIsInstance(node.value, ast.Name, place)

    def test_l8_l17_names_that_are_used(self):
        own = set(dir(builtins))
        for name, node in self.each_node(ast.Name):
            self.assertNotIn(node.id, NAMES_OUT, self.where(name, node))
            if node.id in own:
                self.assertIn(node.id, PYTHONS_OWN, self.where(name, node))

    def test_l10_size(self):
        for name, text in self.texts.items():
            lines = text.split("\n")
            self.assertLessEqual(len(lines), 401, name)
            for number, line in enumerate(lines, start=1):
                self.assertLessEqual(len(line), 120, f"{name}.py, line {number}")
        for name, node in self.each_node(ast.FunctionDef):
            self.assertLessEqual(node.end_lineno - node.lineno + 1, 40, self.where(name, node))

    def test_l12_l15_names_that_are_given(self):
        own = set(dir(builtins))
        for name, tree in self.trees.items():
            taken = classes_and_imports(tree)
            for node, bound in bound_names(tree):
                place = self.where(name, node)
                if bound not in SPECIAL_METHODS:
                    self.assertRegex(bound, r"^[A-Za-z][A-Za-z0-9_]*$", place)
                if isinstance(node, (ast.Name, ast.arg)):
                    self.assertNotIn(bound, own, place)
                    self.assertNotIn(bound, taken, place)

    def test_l14_l17_signs_and_words(self):
        for name, text in self.texts.items():
            self.assertRegex(text, r"^[ -~\n]*$", name)
            self.assertIsNone(WORDS_OUT.search(text), name)

    def test_l18_l26_classes_and_their_names(self):
        classes = {node.name for name, node in self.each_node(ast.ClassDef)}
        for name, node, above in self.each_pair(ast.Name):
            if node.id in classes:
                called = isinstance(above, ast.Call) and (above.func is node or above.func.id == "isinstance")
                self.assertTrue(called or isinstance(above, (ast.ClassDef, ast.ExceptHandler)), self.where(name, node))
        methods = {inner.name for name, node in self.each_node(ast.ClassDef) for inner in node.body if hasattr(inner, "name")}
        values = {node.attr for name, node in self.each_node(ast.Attribute) if isinstance(node.ctx, ast.Store)}
        self.assertEqual(methods & values, set())
        pythons_own = {name for kind in (str, int, list, dict, set, bytes) for name in dir(kind)}
        self.assertEqual((methods - SPECIAL_METHODS | values) & pythons_own, set())

    def test_l20_is(self):
        for name, node in self.each_node(ast.Compare):
            for operator, side in zip(node.ops, node.comparators):
                if isinstance(operator, (ast.Is, ast.IsNot)):
                    self.assertIn(getattr(side, "value", ...), (None, True, False), self.where(name, node))

    def test_l23_walked_at_once(self):
        for name, node, above in self.each_pair(ast.Call):
            called = getattr(node.func, "id", None) or getattr(node.func, "attr", None)
            if called not in WALKED:
                continue
            place = self.where(name, node)
            if isinstance(above, ast.Call):
                self.assertIs(above.args[0], node, place)
                by = getattr(above.func, "id", "join" if isinstance(above.func.value, ast.Constant) else None)
                self.assertIn(by, WALKING, place)
            else:
                self.assertIsInstance(above, (ast.For, ast.comprehension), place)
                self.assertIs(above.iter, node, place)

    def test_l24_sets(self):
        for name, node, above in self.each_pair(ast.Call):
            if getattr(node.func, "id", None) == "set":
                straight = isinstance(above, ast.Call) and above.func.id in ("sorted", "len")
                self.assertTrue(straight or isinstance(above, (ast.Compare, ast.BinOp)), self.where(name, node))

    def test_l25_methods(self):
        methods = set(METHODS)
        for name, node in self.each_node(ast.ClassDef):
            methods.update(inner.name for inner in node.body if isinstance(inner, ast.FunctionDef))
        for name, node in self.each_node(ast.Call):
            if isinstance(node.func, ast.Attribute):
                self.assertIn(node.func.attr, methods, self.where(name, node))

    def test_l27_numbers_and_texts(self):
        for name, node in self.each_node(ast.Constant):
            if isinstance(node.value, str):
                self.assertNotIn("%", node.value, self.where(name, node))
        for name, node in self.each_node(ast.BinOp):
            if isinstance(node.op, ast.Pow):
                self.assertIn(getattr(node.right, "value", None), range(65), self.where(name, node))


if __name__ == "__main__":
    unittest.main()
