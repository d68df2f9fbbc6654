"""The package keeps to the small part of Python that it is written in: what can be read off its files."""

import ast
import builtins
import pathlib
import re
import unittest

PACKAGE = pathlib.Path(__file__).resolve().parent.parent / "shoretold"
ERRORS = ("Exception ValueError TypeError KeyError IndexError LookupError ZeroDivisionError "
          "ArithmeticError OverflowError RuntimeError NotImplementedError AttributeError StopIteration").split()
PYTHONS_OWN = ("len range enumerate zip min max sum abs sorted reversed int str bool bytes list tuple dict set "
               "frozenset isinstance ord repr any all divmod").split() + ERRORS
METHODS = ("append clear copy count endswith extend find get index insert isalnum isalpha isdigit islower isspace "
           "isupper items join keys ljust lower lstrip partition pop remove replace reverse rfind rjust rpartition "
           "rsplit rstrip setdefault split splitlines startswith strip update upper values zfill bit_length "
           "add discard sort __init__").split()
UNUSED_NAMES = ("register mro elements open input version_info with_traceback add_note attrgetter breakpoint builtins "
                "compile copyright credits delattr dir eval exec exit gc getattr globals hasattr help id importlib "
                "license locals methodcaller os quit setattr super type vars sys").split()
UNUSED_WORDS = ("type typing typing_extensions enum Enum IntEnum StrEnum Flag IntFlag Generic Protocol ABC ABCMeta "
                "namedtuple NamedTuple TypedDict TYPE_CHECKING abstractmethod").split()
NODES = ("Module Expr Constant ImportFrom alias FunctionDef arguments arg Return ClassDef Assign AugAssign Name Load "
         "Store Del Delete Attribute Subscript Slice Tuple List Dict Set Call keyword If While For Break Continue Pass "
         "Raise Try ExceptHandler Assert Lambda IfExp BoolOp And Or UnaryOp Not USub UAdd Invert BinOp Add Sub Mult "
         "FloorDiv Mod Pow LShift RShift BitAnd BitOr BitXor Compare Eq NotEq Lt LtE Gt GtE In NotIn Is IsNot "
         "ListComp DictComp SetComp comprehension JoinedStr FormattedValue Starred").split()
TOP_NODES = (ast.Expr, ast.ImportFrom, ast.FunctionDef, ast.ClassDef, ast.Assign)
WALKED = ("zip", "enumerate", "reversed", "range", "items", "keys", "values")
WALKERS = ("list", "tuple", "dict", "sorted", "sum", "any", "all", "enumerate", "zip", "bytes", "min", "max", "join")


def bound_names(tree):
    """All names that a file gives a meaning to."""
    found = set()
    for node in ast.walk(tree):
        if isinstance(node, (ast.FunctionDef, ast.ClassDef)):
            found.add(node.name)
        elif isinstance(node, ast.arg):
            found.add(node.arg)
        elif isinstance(node, ast.Name) and not isinstance(node.ctx, ast.Load):
            found.add(node.id)
        elif isinstance(node, ast.ExceptHandler) and node.name:
            found.add(node.name)
        elif isinstance(node, ast.alias):
            found.add(node.asname or node.name)
    return found


def called(node):
    """The bare name by which something is called, None where nothing is."""
    if not isinstance(node, ast.Call):
        return None
    return node.func.id if isinstance(node.func, ast.Name) else node.func.attr


def makes_set(node):
    return isinstance(node, (ast.Set, ast.SetComp)) or called(node) == "set"


class Language(unittest.TestCase):
    @classmethod
    def setUpClass(cls):
        cls.texts = {path: path.read_bytes().decode("ascii") for path in sorted(PACKAGE.rglob("*.py"))}
        cls.trees = {path: ast.parse(text) for path, text in cls.texts.items()}
        nodes = [node for tree in cls.trees.values() for node in ast.walk(tree)]
        classes = [node for node in nodes if isinstance(node, ast.ClassDef)]
        cls.methods = {part.name for node in classes for part in node.body if isinstance(part, ast.FunctionDef)}
        cls.fields = {node.attr for node in nodes
                      if isinstance(node, ast.Attribute) and isinstance(node.ctx, ast.Store)}
        cls.above = {part: node for node in nodes for part in ast.iter_child_nodes(node)}

    def nodes(self, kind):
        for path, tree in self.trees.items():
            for node in ast.walk(tree):
                if isinstance(node, kind):
                    yield path.name, node

    def test_only_python_files_with_plain_names(self):
        self.assertIn(PACKAGE / "__init__.py", self.texts)
        for path in PACKAGE.rglob("*"):
            if "__pycache__" not in path.parts:
                self.assertRegex(path.name, r"^(__init__|[a-z][a-z0-9_]*)\.py$")

    def test_signs_and_sizes(self):
        for path, text in self.texts.items():
            rows = text.split("\n")
            self.assertRegex(text, r"\A[ -~\n]*\Z", path.name)
            self.assertLessEqual(len(rows), 400, path.name)
            self.assertLessEqual(max(len(row) for row in rows), 120, path.name)
        for name, node in self.nodes(ast.FunctionDef):
            self.assertLessEqual(node.end_lineno - node.lineno + 1, 40, (name, node.name))

    def test_words_that_stand_nowhere(self):
        for path, text in self.texts.items():
            self.assertEqual(set(re.findall(r"\w+", text)) & set(UNUSED_WORDS), set(), path.name)
            self.assertNotRegex(text, "dataclass|overload|contextmanager")

    def test_kinds_of_rows_and_values(self):
        for name, node in self.nodes(ast.AST):
            self.assertIn(node.__class__.__name__, NODES, (name, getattr(node, "lineno", None)))

    def test_the_top_of_a_file(self):
        for path, tree in self.trees.items():
            self.assertTrue(ast.get_docstring(tree), path.name)
            bound = [row.name for row in tree.body if isinstance(row, (ast.FunctionDef, ast.ClassDef))]
            for row in tree.body:
                self.assertIsInstance(row, TOP_NODES, (path.name, row.lineno))
                if isinstance(row, ast.Expr):
                    self.assertIs(row, tree.body[0])
                if isinstance(row, ast.Assign):
                    bound += [target.id for target in row.targets]
                if isinstance(row, ast.ImportFrom):
                    bound += [part.asname or part.name for part in row.names]
            self.assertEqual(len(bound), len(set(bound)), path.name)

    def test_imports_are_the_packages_own(self):
        for name, node in self.nodes(ast.ImportFrom):
            self.assertRegex(node.module, r"^shoretold\.[a-z_]+$", name)
            self.assertEqual(node.level, 0, name)
            drawn = self.trees[PACKAGE / (node.module.split(".")[1] + ".py")]
            own = {row.name for row in drawn.body if isinstance(row, (ast.FunctionDef, ast.ClassDef))}
            own |= {row.targets[0].id for row in drawn.body if isinstance(row, ast.Assign)}
            self.assertLessEqual({part.name for part in node.names}, own, name)

    def test_names(self):
        for path, tree in self.trees.items():
            bound = bound_names(tree)
            for word in bound - {"__init__", "__eq__", "__repr__", "__str__", "__len__"}:
                self.assertFalse(word.startswith("_"), (path.name, word))
                self.assertNotIn(word, UNUSED_NAMES, path.name)
                self.assertNotIn(word, dir(builtins), path.name)
            for node in ast.walk(tree):
                if isinstance(node, ast.Name):
                    self.assertIn(node.id, bound | set(PYTHONS_OWN), (path.name, node.lineno))

    def test_no_local_is_called_like_an_import_or_a_class(self):
        for path, tree in self.trees.items():
            taken = {row.name for row in tree.body if isinstance(row, ast.ClassDef)}
            taken |= {part.name for row in tree.body if isinstance(row, ast.ImportFrom) for part in row.names}
            for row in tree.body:
                if isinstance(row, (ast.FunctionDef, ast.ClassDef)):
                    parts = [ast.Module([part], []) for part in row.body]
                    parts += [row.args] if isinstance(row, ast.FunctionDef) else []
                    self.assertEqual({name for part in parts for name in bound_names(part)} & taken, set(), path.name)

    def test_no_two_files_draw_from_one_another(self):
        drawn = {path.stem: {row.module.split(".")[1] for row in tree.body if isinstance(row, ast.ImportFrom)}
                 for path, tree in self.trees.items()}
        while drawn:
            free = [name for name in drawn if not drawn[name] & set(drawn)]
            self.assertTrue(free, sorted(drawn))
            drawn = {name: drawn[name] for name in drawn if name not in free}

    def test_sets_stand_where_their_order_is_not_told(self):
        for name, node in self.nodes((ast.Set, ast.SetComp, ast.Call)):
            if makes_set(node):
                user = self.above[node]
                while isinstance(user, ast.BinOp):
                    user = self.above[user]
                plain = called(user) in ("sorted", "len") and not user.keywords
                self.assertTrue(plain or isinstance(user, (ast.Compare, ast.Assign)), (name, node.lineno))

    def test_walked_at_once(self):
        for name, node in self.nodes(ast.Call):
            if called(node) in WALKED:
                user = self.above[node]
                self.assertTrue(isinstance(user, (ast.For, ast.comprehension)) or called(user) in WALKERS,
                                (name, node.lineno))

    def test_errors_are_made_on_the_spot_and_taken_by_their_own_names(self):
        own = {node.name for name, node in self.nodes(ast.ClassDef)}
        for name, node in self.nodes(ast.Raise):
            self.assertIn(called(node.exc), own, (name, node.lineno))
            self.assertEqual(node.exc.keywords, [], (name, node.lineno))
        for name, node in self.nodes(ast.ExceptHandler):
            self.assertIsInstance(node.type, ast.Name, (name, node.lineno))
            self.assertIn(node.type.id, own, (name, node.lineno))

    def test_lists_and_dicts_of_a_files_top_are_only_asked(self):
        for path, tree in self.trees.items():
            kept = {row.targets[0].id for row in tree.body
                    if isinstance(row, ast.Assign) and isinstance(row.value, (ast.List, ast.Dict))}
            for node in ast.walk(tree):
                if isinstance(node, ast.Name) and node.id in kept and isinstance(node.ctx, ast.Load):
                    user = self.above[node]
                    asked = isinstance(user, ast.Subscript) and isinstance(user.ctx, ast.Load)
                    self.assertTrue(asked or isinstance(user, ast.Compare), (path.name, node.lineno))

    def test_init_gives_nothing_back(self):
        for name, node in self.nodes(ast.FunctionDef):
            if node.name == "__init__":
                self.assertFalse([part for part in ast.walk(node) if isinstance(part, ast.Return)], name)

    def test_methods_and_fields(self):
        self.assertEqual(self.methods & self.fields, set())
        known = self.methods | self.fields | set(METHODS)
        for name, node in self.nodes(ast.Attribute):
            self.assertIn(node.attr, known, (name, node.lineno))

    def test_parameters_and_classes_are_plain(self):
        for name, node in self.nodes((ast.FunctionDef, ast.Lambda)):
            arguments = node.args
            self.assertFalse(arguments.vararg or arguments.kwarg or arguments.posonlyargs, (name, node.lineno))
            self.assertEqual(getattr(node, "decorator_list", []), [], (name, node.lineno))
        for name, node in self.nodes(ast.ClassDef):
            self.assertEqual((node.decorator_list, node.keywords), ([], []), (name, node.name))
            self.assertLessEqual(len(node.bases), 1, (name, node.name))
            for part in node.body[1:]:
                self.assertIsInstance(part, ast.FunctionDef, (name, node.name))

    def test_written_values(self):
        for name, node in self.nodes(ast.Constant):
            self.assertNotIsInstance(node.value, (float, complex), (name, node.lineno))
            if isinstance(node.value, str):
                self.assertNotIn(chr(37), node.value, (name, node.lineno))
        for name, node in self.nodes(ast.FormattedValue):
            self.assertIsNone(node.format_spec, (name, node.lineno))
        for name, node in self.nodes((ast.For, ast.While)):
            self.assertEqual(node.orelse, [], (name, node.lineno))


if __name__ == "__main__":
    unittest.main()
