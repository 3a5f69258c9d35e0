"""The rules of LANGUAGE.md that a look at the package's files can tell, each named by its number."""

import ast
import builtins
import pathlib
import re
import unittest

FOLDER = pathlib.Path(__file__).resolve().parent.parent / "lagwedge"
FILES = sorted(path for path in FOLDER.rglob("*") if "__pycache__" not in path.parts and path.is_file())
TREES = {path.stem: ast.parse(path.read_text()) for path in FILES}

BUILTINS = set("""
    len range enumerate zip min max sum abs sorted reversed int str bool list tuple dict set isinstance ord repr any all
    divmod iter next Exception ValueError TypeError KeyError IndexError LookupError ZeroDivisionError ArithmeticError
    OverflowError RuntimeError NotImplementedError AttributeError StopIteration NotImplemented super property
    staticmethod classmethod
""".split())
BUILTIN_METHODS = set("""
    append clear copy count endswith extend find get index insert isalnum isalpha isdigit islower isspace isupper items
    join keys ljust lower lstrip partition pop remove replace reverse rfind rjust rpartition rsplit rstrip setdefault
    split splitlines startswith strip update upper values zfill bit_length title capitalize swapcase casefold center
    expandtabs removeprefix removesuffix rindex isascii isdecimal isnumeric istitle isidentifier isprintable translate
    encode decode hex sort add discard
""".split())
DOUBLE_UNDERSCORE = {"__init__", "__eq__", "__repr__", "__str__", "__len__"}
NOWHERE = set("register mro elements open input law version_info with_traceback add_note".split())
NO_WORD = set("""
    type typing typing_extensions enum Enum IntEnum StrEnum Flag IntFlag Generic Protocol ABC ABCMeta namedtuple
    NamedTuple TypedDict TYPE_CHECKING abstractmethod
""".split())
AT_ONCE = {"zip", "enumerate", "reversed", "range"}
TAKE_AT_ONCE = {"list", "tuple", "dict", "sorted", "sum", "any", "all", "enumerate", "zip", "min", "max", "reversed", "len"}
NO_STATEMENT = (ast.Global, ast.AsyncFunctionDef, ast.AsyncFor, ast.AsyncWith, ast.Await, ast.Import)
PLAIN = (ast.Constant, ast.Tuple, ast.List, ast.Dict, ast.Load, ast.UnaryOp, ast.USub, ast.Name)


def nodes(kinds):
    """All nodes of these kinds, each with the name of its file."""
    return [(name, node) for name, tree in TREES.items() for node in ast.walk(tree) if isinstance(node, kinds)]


def defined(tree):
    """The names that a file binds at module level, but by imports."""
    names = [node.name for node in tree.body if isinstance(node, (ast.FunctionDef, ast.ClassDef))]
    for node in tree.body:
        if isinstance(node, ast.Assign):
            names += [target.id for target in node.targets]
    return names


def method_names():
    return {node.name for _, kind in nodes(ast.ClassDef) for node in kind.body if isinstance(node, ast.FunctionDef)}


def stored_attributes():
    return {node.attr for _, node in nodes(ast.Attribute) if isinstance(node.ctx, ast.Store)}


def bound_names():
    names = [(file, node.id) for file, node in nodes(ast.Name) if isinstance(node.ctx, ast.Store)]
    names += [(file, node.arg) for file, node in nodes(ast.arg)]
    return names + [(file, node.name) for file, node in nodes((ast.FunctionDef, ast.ClassDef))]


class Files(unittest.TestCase):

    def test_l1_l14_names(self):
        for path in FILES:
            self.assertRegex(path.name, r"^([a-z][a-z0-9_]*|__init__|__main__)\.py$")

    def test_l10_l14_lines(self):
        for path in FILES:
            text = path.read_text()
            self.assertRegex(text, r"\A[\n -~]*\Z", path.name)
            self.assertLessEqual(len(text.splitlines()), 399, path.name)
            self.assertLessEqual(max([0, *map(len, text.splitlines())]), 120, path.name)

    def test_l10_functions(self):
        for file, node in nodes(ast.FunctionDef):
            self.assertLessEqual(node.end_lineno - node.lineno + 1, 40, (file, node.name))

    def test_l17_words(self):
        for path in FILES:
            words = set(re.findall(r"\w+", path.read_text()))
            self.assertEqual(words & NO_WORD, set(), path.name)
            self.assertNotRegex(path.read_text(), "dataclass|overload|contextmanager")


class Modules(unittest.TestCase):

    def test_l2_l16_imports(self):
        for file, node in nodes(ast.ImportFrom):
            self.assertRegex(node.module, r"^lagwedge\.\w+$", file)
            for alias in node.names:
                self.assertIsNone(alias.asname)
                self.assertIn(alias.name, defined(TREES[node.module.split(".")[1]]))

    def test_l2_imports_stand_on_top(self):
        for file, tree in TREES.items():
            body = tree.body[1:] if ast.get_docstring(tree) else tree.body
            kinds = [isinstance(node, ast.ImportFrom) for node in body]
            self.assertEqual(kinds, sorted(kinds, reverse=True), file)

    def test_l16_no_two_files_import_from_each_other(self):
        above = {file: {node.module.split(".")[1] for node in tree.body if isinstance(node, ast.ImportFrom)}
                 for file, tree in TREES.items()}
        for _ in TREES:
            above = {file: near.union(*[above[name] for name in near]) for file, near in above.items()}
        self.assertEqual([file for file, near in above.items() if file in near], [])

    def test_l3_module_level(self):
        for file, tree in TREES.items():
            for node in tree.body:
                if isinstance(node, ast.Assign):
                    self.assertEqual([ast.Name], [type(target) for target in node.targets], file)
                    self.assertEqual([], [part for part in ast.walk(node.value) if not isinstance(part, PLAIN)])
                elif isinstance(node, ast.Expr):
                    self.assertIsInstance(node.value.value, str)
                else:
                    self.assertIsInstance(node, (ast.FunctionDef, ast.ClassDef, ast.ImportFrom))

    def test_l15_names_are_bound_once(self):
        for file, tree in TREES.items():
            imported = [alias.name for node in tree.body if isinstance(node, ast.ImportFrom) for alias in node.names]
            names = defined(tree) + imported
            self.assertEqual(sorted(names), sorted(set(names)), file)
            taken = set(imported) | {node.name for node in tree.body if isinstance(node, ast.ClassDef)}
            local = [node.id for node in ast.walk(tree) if isinstance(node, ast.Name) and isinstance(node.ctx, ast.Store)]
            local += [node.arg for node in ast.walk(tree) if isinstance(node, ast.arg)]
            self.assertEqual(set(local) & taken, set(), file)

    def test_l15_no_list_or_dict_within_another_thing(self):
        for file, tree in TREES.items():
            for node in tree.body:
                if isinstance(node, ast.Assign):
                    inner = [part for part in ast.walk(node.value) if part is not node.value]
                    self.assertEqual([part for part in inner if isinstance(part, (ast.List, ast.Dict))], [], file)

    def test_l15_tables_are_only_read(self):
        tables = {name for tree in TREES.values() for node in tree.body if isinstance(node, ast.Assign)
                  and isinstance(node.value, (ast.List, ast.Dict)) for name in [node.targets[0].id]}
        for file, node in nodes(ast.Subscript):
            if isinstance(node.value, ast.Name) and node.value.id in tables:
                self.assertIsInstance(node.ctx, ast.Load, (file, node.lineno))
        for file, node in nodes(ast.Attribute):
            if isinstance(node.value, ast.Name):
                self.assertNotIn(node.value.id, tables, (file, node.lineno))


class Names(unittest.TestCase):

    def test_l8_builtins(self):
        for file, node in nodes(ast.Name):
            if hasattr(builtins, node.id):
                self.assertIn(node.id, BUILTINS, file)

    def test_l12_l15_bound_names(self):
        for file, name in bound_names():
            if name not in DOUBLE_UNDERSCORE:
                self.assertRegex(name, r"^[A-Za-z][A-Za-z0-9_]*$", file)
                self.assertFalse(hasattr(builtins, name), (file, name))

    def test_l17_names(self):
        names = {name for _, name in bound_names()} | stored_attributes()
        self.assertEqual(names & NOWHERE, set())

    def test_l18_no_method_is_an_attribute(self):
        self.assertEqual(method_names() & stored_attributes(), set())

    def test_l18_attributes_that_are_read_are_assigned(self):
        read = {node.attr for _, node in nodes(ast.Attribute) if isinstance(node.ctx, ast.Load)}
        self.assertEqual(read - stored_attributes() - method_names() - BUILTIN_METHODS, set())


class Statements(unittest.TestCase):

    def test_l4_l5_no_decorators_and_no_stroke(self):
        for file, node in nodes((ast.FunctionDef, ast.ClassDef)):
            self.assertEqual(node.decorator_list, [], (file, node.name))
            if isinstance(node, ast.FunctionDef):
                self.assertEqual(node.args.posonlyargs, [], (file, node.name))

    def test_l6_statements(self):
        self.assertEqual(nodes(NO_STATEMENT), [])

    def test_l7_no_float_and_no_stroke(self):
        self.assertEqual(nodes((ast.Div, ast.MatMult)), [])
        for file, node in nodes(ast.Constant):
            self.assertNotIsInstance(node.value, (float, complex), file)

    def test_l7_lists_beside_eq(self):
        for file, node in nodes(ast.Call):
            if isinstance(node.func, ast.Name) and node.func.id in {"any", "all", "min", "max", "sum", "sorted"}:
                self.assertNotIn(ast.GeneratorExp, [type(given) for given in node.args], (file, node.lineno))

    def test_l19_raise_on_the_spot(self):
        for file, node in nodes(ast.Raise):
            if node.exc is not None:
                self.assertIsInstance(node.exc, ast.Call, (file, node.lineno))
                self.assertIsInstance(node.exc.func, ast.Name, (file, node.lineno))

    def test_l18_classes_are_called_tested_or_raised_alone(self):
        classes = {node.name for _, node in nodes(ast.ClassDef)}
        for file, tree in TREES.items():
            let = set()
            for node in ast.walk(tree):
                if isinstance(node, ast.Call):
                    let.add(node.func)
                    if isinstance(node.func, ast.Name) and node.func.id == "isinstance":
                        let.add(node.args[1])
                    if isinstance(node.func, ast.Attribute) and node.func.attr == "__init__":
                        let.add(node.func.value)
                elif isinstance(node, ast.ClassDef):
                    let.update(node.bases)
                elif isinstance(node, ast.ExceptHandler):
                    let.update(node.type.elts if isinstance(node.type, ast.Tuple) else [node.type])
            for node in ast.walk(tree):
                if isinstance(node, ast.Name) and node.id in classes:
                    self.assertIn(node, let, (file, node.lineno))

    def test_l19_own_errors_are_caught_by_name(self):
        own = {node.name for node in TREES["errors"].body if isinstance(node, ast.ClassDef)}
        for file, node in nodes(ast.ExceptHandler):
            caught = node.type.elts if isinstance(node.type, ast.Tuple) else [node.type]
            self.assertEqual({name.id for name in caught} - own, set(), (file, node.lineno))

    def test_l22_keywords_of_builtins_and_their_methods(self):
        for file, node in nodes(ast.Call):
            if isinstance(node.func, ast.Name) and hasattr(builtins, node.func.id):
                let = {"enumerate": {"start"}, "sum": {"start"}}.get(node.func.id, set())
                self.assertEqual({word.arg for word in node.keywords} - let, set(), (file, node.lineno))
            elif isinstance(node.func, ast.Attribute) and node.func.attr in BUILTIN_METHODS:
                self.assertEqual(node.keywords, [], (file, node.lineno))

    def test_l23_iterated_at_once(self):
        for file, tree in TREES.items():
            let = set()
            for node in ast.walk(tree):
                if isinstance(node, (ast.For, ast.comprehension)):
                    let.add(node.iter)
                elif isinstance(node, ast.Call) and isinstance(node.func, ast.Name) and node.func.id in TAKE_AT_ONCE:
                    let.update(node.args[:1])
                elif isinstance(node, ast.Call) and isinstance(node.func, ast.Attribute) and node.func.attr == "join":
                    let.update(node.args)
            for node in ast.walk(tree):
                if isinstance(node, ast.Call) and isinstance(node.func, ast.Name) and node.func.id in AT_ONCE:
                    self.assertIn(node, let, (file, node.lineno))

    def test_l24_no_sets(self):
        self.assertEqual(nodes((ast.Set, ast.SetComp)), [])

    def test_l25_methods_of_builtin_values(self):
        called = {node.func.attr for _, node in nodes(ast.Call) if isinstance(node.func, ast.Attribute)}
        self.assertEqual(called - method_names() - BUILTIN_METHODS - {"__init__"}, set())

    def test_l28_double_underscore_methods(self):
        for file, node in nodes(ast.FunctionDef):
            if node.name == "__init__":
                self.assertEqual([part for part in ast.walk(node) if isinstance(part, ast.Return)], [], file)
            elif node.name in DOUBLE_UNDERSCORE:
                self.assertEqual([type(part) for part in node.body], [ast.Return], (file, node.name))

    def test_l20_is(self):
        for file, node in nodes(ast.Compare):
            for operator, right in zip(node.ops, node.comparators):
                if isinstance(operator, (ast.Is, ast.IsNot)):
                    self.assertIn(repr(getattr(right, "value", 0)), ("None", "True", "False"), (file, node.lineno))

    def test_l27_strings(self):
        for file, node in nodes(ast.Constant):
            if isinstance(node.value, str):
                self.assertNotIn("%", node.value, file)
                self.assertNotRegex(node.value, r"^__.*__$|\._$|\.__$", file)

    def test_l27_no_power_of_two(self):
        self.assertEqual([node for _, node in nodes(ast.BinOp) if isinstance(node.op, ast.Pow)], [])
