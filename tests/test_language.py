"""The package's files, held against those rules of the language's small part that a reader of trees can see."""

import ast
import builtins
import re
import unittest
import warnings
from pathlib import Path

PACKAGE = Path(__file__).resolve().parent.parent / "byestand"
FILES = sorted(PACKAGE.glob("*.py"))

OWN_NAMES = set(
    "len range enumerate zip min max sum abs sorted reversed int str bool bytes list tuple dict set isinstance "
    "ord repr any all divmod Exception ValueError TypeError KeyError IndexError LookupError ZeroDivisionError "
    "ArithmeticError OverflowError RuntimeError NotImplementedError AttributeError StopIteration".split()
)
METHODS = set(
    "append clear copy count endswith extend find get index insert isalnum isalpha isdigit islower isspace isupper "
    "items join keys ljust lower lstrip partition pop remove replace reverse rfind rjust rpartition rsplit rstrip "
    "setdefault split splitlines startswith strip update upper values zfill bit_length add discard sort".split()
)
UNUSED = set("register mro elements open input version_info with_traceback add_note format format_map".split())
NO_NAMES = set(
    "attrgetter breakpoint builtins compile copyright credits delattr dir eval exec exit gc getattr globals hasattr "
    "help id importlib license locals methodcaller os quit setattr super type vars sys".split()
)
WALKED = {"zip", "enumerate", "reversed", "range"}
WALKERS = set("list tuple dict sorted sum any all enumerate zip bytes min max".split())
NO_WORDS = re.compile(
    r"\b(type|typing|typing_extensions|enum|Enum|IntEnum|StrEnum|Flag|IntFlag|Generic|Protocol|ABC|ABCMeta"
    r"|namedtuple|NamedTuple|TypedDict|TYPE_CHECKING|abstractmethod)\b|dataclass|overload|contextmanager"
)
SPECIAL = {"__init__", "__eq__", "__repr__", "__str__", "__len__"}
FORMS_OUT = (
    ast.With, ast.Match, ast.Global, ast.Nonlocal, ast.Yield, ast.YieldFrom, ast.AsyncFunctionDef, ast.AsyncFor,
    ast.AsyncWith, ast.Await, ast.GeneratorExp, ast.NamedExpr, ast.Div, ast.MatMult, ast.Import,
)


def tree_of(path):
    with warnings.catch_warnings():
        warnings.simplefilter("error")
        source = path.read_text(encoding="utf-8")
        compile(source, str(path), "exec")
        return ast.parse(source)


TREES = [(path, tree_of(path)) for path in FILES]


def nodes(*kinds):
    return [(path.name, node) for path, tree in TREES for node in ast.walk(tree) if isinstance(node, kinds)]


def parameters(node):
    return [one.arg for one in node.args.args + node.args.kwonlyargs]


def is_walked(node):
    """True for a call of what is walked on the spot and not kept."""
    if not isinstance(node, ast.Call):
        return False
    if isinstance(node.func, ast.Attribute):
        return node.func.attr in {"items", "keys", "values"}
    return isinstance(node.func, ast.Name) and node.func.id in WALKED


def walkers(tree):
    """Whatever stands in a place where it is walked on the spot."""
    for node in ast.walk(tree):
        if isinstance(node, (ast.For, ast.comprehension)):
            yield node.iter
        elif isinstance(node, ast.Call) and isinstance(node.func, ast.Name) and node.func.id in WALKERS:
            yield from node.args[:1]


def readers(part):
    """The things that a part of a tree only reads: by an index, by in, by get."""
    if isinstance(part, ast.Subscript) and isinstance(part.ctx, ast.Load):
        return [part.value]
    if isinstance(part, ast.Compare) and isinstance(part.ops[0], (ast.In, ast.NotIn)):
        return part.comparators
    if isinstance(part, ast.Attribute) and part.attr == "get":
        return [part.value]
    return []


def drawn_files(tree):
    """The files that a file draws from, each with the name that is drawn."""
    rows = [node for node in tree.body if isinstance(node, ast.ImportFrom)]
    return [(row.module.split(".")[-1] + ".py", alias.name) for row in rows for alias in row.names]


def bound_names(node):
    """The names that a def gives: its parameters and its locals."""
    stored = [one.id for one in ast.walk(node) if isinstance(one, ast.Name) and isinstance(one.ctx, ast.Store)]
    return parameters(node) + stored


class Files(unittest.TestCase):
    def test_the_folder_holds_plain_files_alone(self):
        self.assertIn("__init__.py", [path.name for path in FILES])
        others = [path.name for path in PACKAGE.iterdir() if path not in FILES and path.name != "__pycache__"]
        self.assertEqual(others, [])
        for path in FILES:
            self.assertRegex(path.name, r"^(__init__|__main__|[a-z][a-z0-9_]*)\.py$")

    def test_sizes_and_signs(self):
        for path in FILES:
            rows = path.read_text(encoding="utf-8").split("\n")
            self.assertLessEqual(len(rows) - 1, 400, path.name)
            for row in rows:
                self.assertLessEqual(len(row), 120, path.name)
                self.assertRegex(row, r"^[ -~]*$", path.name)
                self.assertIsNone(NO_WORDS.search(row), (path.name, row))

    def test_defs_are_short_and_plain(self):
        for name, node in nodes(ast.FunctionDef):
            self.assertLessEqual(node.end_lineno - node.lineno + 1, 40, (name, node.name))
            self.assertEqual(node.decorator_list, [], (name, node.name))
            self.assertEqual((node.args.vararg, node.args.kwarg, node.args.posonlyargs), (None, None, []))


class Forms(unittest.TestCase):
    def test_forms_that_are_out(self):
        self.assertEqual([(name, node.lineno) for name, node in nodes(*FORMS_OUT)], [])
        for name, node in nodes(ast.For, ast.While):
            self.assertEqual(node.orelse, [], (name, node.lineno))

    def test_no_floats_and_no_remainder_sign_in_texts(self):
        for name, node in nodes(ast.Constant):
            self.assertNotIsInstance(node.value, (float, complex), name)
            if isinstance(node.value, str):
                self.assertNotIn("%", node.value, name)

    def test_is_stands_beside_none_true_and_false(self):
        for name, node in nodes(ast.Compare):
            for sign, value in zip(node.ops, node.comparators):
                if isinstance(sign, (ast.Is, ast.IsNot)):
                    self.assertIsInstance(value, ast.Constant, (name, node.lineno))
                    self.assertIn(value.value, (None, True, False))

    def test_imports(self):
        for name, node in nodes(ast.ImportFrom):
            self.assertEqual(node.level, 0, name)
            self.assertTrue((node.module or "").startswith("byestand."), (name, node.module))
            self.assertNotIn("*", [alias.name for alias in node.names])

    def test_names_are_drawn_from_the_file_that_defines_them(self):
        tops = {path.name: tree.body for path, tree in TREES}
        for path, tree in TREES:
            for file, word in drawn_files(tree):
                defs = [node.name for node in tops[file] if isinstance(node, (ast.FunctionDef, ast.ClassDef))]
                values = [node.targets[0].id for node in tops[file] if isinstance(node, ast.Assign)]
                self.assertIn(word, defs + values, (path.name, file))

    def test_no_two_files_draw_from_one_another(self):
        left = {path.name: {file for file, _ in drawn_files(tree)} for path, tree in TREES}
        while left:
            free = [name for name, files in left.items() if not files & set(left)]
            self.assertTrue(free, left)
            for name in free:
                del left[name]

    def test_what_is_walked_is_walked_on_the_spot(self):
        for path, tree in TREES:
            walked = [id(node) for node in walkers(tree)]
            for node in ast.walk(tree):
                if is_walked(node):
                    self.assertIn(id(node), walked, (path.name, node.lineno))

    def test_the_top_binds_each_name_once(self):
        for path, tree in TREES:
            names = []
            for node in tree.body:
                if isinstance(node, (ast.FunctionDef, ast.ClassDef)):
                    names.append(node.name)
                elif isinstance(node, ast.ImportFrom):
                    names += [alias.asname or alias.name for alias in node.names]
                elif isinstance(node, ast.Assign):
                    names += [target.id for target in node.targets]
                else:
                    self.assertIsInstance(node, ast.Expr, (path.name, node.lineno))
                    self.assertIsInstance(node.value, ast.Constant)
            self.assertEqual(len(names), len(set(names)), path.name)

    def test_classes_hold_methods_alone(self):
        for name, node in nodes(ast.ClassDef):
            self.assertLessEqual(len(node.bases), 1, (name, node.name))
            for part in node.body:
                docstring = isinstance(part, ast.Expr) and isinstance(part.value, ast.Constant)
                self.assertTrue(docstring or isinstance(part, ast.FunctionDef), (name, node.name))


    def test_errors_are_raised_on_the_spot_and_taken_by_name(self):
        classes = {node.name for _, node in nodes(ast.ClassDef)}
        for name, node in nodes(ast.Raise):
            self.assertIsInstance(node.exc, ast.Call, (name, node.lineno))
            self.assertIn(node.exc.func.id, classes, (name, node.lineno))
        for name, node in nodes(ast.ExceptHandler):
            self.assertIsInstance(node.type, ast.Name, (name, node.lineno))
            self.assertIn(node.type.id, classes, (name, node.lineno))

    def test_exponents_are_written(self):
        for name, node in nodes(ast.BinOp):
            if isinstance(node.op, ast.Pow):
                self.assertIsInstance(node.right, ast.Constant, (name, node.lineno))
                self.assertIn(node.right.value, range(65))

    def test_lists_and_dicts_of_the_top_are_only_read(self):
        for path, tree in TREES:
            tops = [node for node in tree.body if isinstance(node, ast.Assign)]
            kept = {node.targets[0].id for node in tops if isinstance(node.value, (ast.List, ast.Dict))}
            read = {id(node) for part in ast.walk(tree) for node in readers(part)}
            for node in ast.walk(tree):
                if isinstance(node, ast.Name) and isinstance(node.ctx, ast.Load) and node.id in kept:
                    self.assertIn(id(node), read, (path.name, node.lineno))

    def test_sets_stand_where_they_may(self):
        for path, tree in TREES:
            asked = [node.args[0] for node in ast.walk(tree) if isinstance(node, ast.Call) and node.args
                     and isinstance(node.func, ast.Name) and node.func.id in ("len", "sorted")]
            for node in ast.walk(tree):
                if isinstance(node, ast.Call) and isinstance(node.func, ast.Name) and node.func.id == "set":
                    self.assertIn(node, asked, (path.name, node.lineno))
                self.assertNotIsInstance(node, (ast.Set, ast.SetComp), path.name)


class Names(unittest.TestCase):
    def test_names_are_plain(self):
        for name, node in nodes(ast.Name, ast.FunctionDef, ast.ClassDef, ast.Attribute):
            word = getattr(node, "id", None) or getattr(node, "name", None) or node.attr
            if word not in SPECIAL:
                self.assertRegex(word, r"^[A-Za-z][A-Za-z0-9_]*$", (name, node.lineno))
            self.assertNotIn(word, UNUSED, (name, node.lineno))
            if not isinstance(node, ast.Attribute):
                self.assertNotIn(word, NO_NAMES, (name, node.lineno))

    def test_pythons_own_names(self):
        for name, node in nodes(ast.Name):
            if isinstance(node.ctx, ast.Load) and hasattr(builtins, node.id):
                self.assertIn(node.id, OWN_NAMES, (name, node.lineno))

    def test_nothing_is_called_like_pythons_own_or_like_a_class_or_an_import(self):
        for path, tree in TREES:
            taken = {node.name for node in tree.body if isinstance(node, ast.ClassDef)}
            for node in tree.body:
                if isinstance(node, ast.ImportFrom):
                    taken |= {alias.asname or alias.name for alias in node.names}
            for node in ast.walk(tree):
                if isinstance(node, ast.FunctionDef):
                    for word in bound_names(node):
                        self.assertNotIn(word, taken, (path.name, node.name))
                        self.assertFalse(hasattr(builtins, word), (path.name, node.name, word))

    def test_methods_and_values(self):
        own = {part.name for _, node in nodes(ast.ClassDef) for part in node.body if isinstance(part, ast.FunctionDef)}
        given = {node.attr for _, node in nodes(ast.Attribute) if isinstance(node.ctx, ast.Store)}
        self.assertEqual(own & given, set())
        for name, node in nodes(ast.Attribute):
            self.assertIn(node.attr, own | given | METHODS, (name, node.lineno))


if __name__ == "__main__":
    unittest.main()
