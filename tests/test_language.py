"""Some rules of LANGUAGE.md that can be looked at by a small program: L1, L2, L8, L10, L12, L14 to L18, L20."""

import ast
import builtins
import pathlib
import re
import unittest

PACKAGE = pathlib.Path(__file__).resolve().parent.parent / "fuseboard"
FILES = sorted(path for path in PACKAGE.rglob("*") if path.is_file() and "__pycache__" not in path.parts)

BUILTINS = set("""len range enumerate zip min max sum abs sorted reversed int str bool bytes list tuple dict set
frozenset isinstance ord repr any all divmod super property staticmethod classmethod Exception ValueError TypeError
KeyError IndexError LookupError ZeroDivisionError ArithmeticError OverflowError RuntimeError NotImplementedError
AttributeError StopIteration""".split())
METHODS = set("__init__ __eq__ __repr__ __str__ __len__ __enter__ __exit__".split())
WORDS = re.compile(r"(?<!\w)(type|typing|typing_extensions|enum|Enum|IntEnum|StrEnum|Flag|IntFlag|Generic|Protocol|ABC"
                   r"|ABCMeta|namedtuple|NamedTuple|TypedDict|TYPE_CHECKING|abstractmethod)(?!\w)"
                   r"|dataclass|overload|contextmanager")
NAMES = set("""register mro elements open input version_info with_traceback add_note format format_map""".split())
BARRED = (ast.Global, ast.AsyncFunctionDef, ast.Await, ast.NamedExpr, ast.Div, ast.Import)


def trees():
    return [(path, ast.parse(path.read_text(encoding="utf-8"))) for path in FILES]


def nodes(kinds):
    """All nodes of these kinds, with the name of their file."""
    for path, tree in trees():
        for node in ast.walk(tree):
            if isinstance(node, kinds):
                yield path.name, node


def bound(node):
    """The names that a node binds."""
    if isinstance(node, ast.Name) and isinstance(node.ctx, ast.Store):
        return [node.id]
    if isinstance(node, (ast.FunctionDef, ast.ClassDef)):
        return [node.name]
    if isinstance(node, ast.arg):
        return [node.arg]
    if isinstance(node, ast.alias):
        return [node.asname or node.name]
    if isinstance(node, ast.ExceptHandler) and node.name:
        return [node.name]
    return []


def module_bound(node):
    """The nodes by which a statement at module level binds names there."""
    if isinstance(node, ast.ImportFrom):
        return node.names
    return node.targets if isinstance(node, ast.Assign) else [node]


class Files(unittest.TestCase):
    def test_plain_names_and_nothing_else(self):
        self.assertIn(PACKAGE / "__init__.py", FILES)
        for path in FILES:
            self.assertRegex(path.name, r"\A([a-z][a-z0-9_]*|__init__|__main__)\.py\Z")
            self.assertFalse(path.stem.startswith(("law_", "test", "site", "conftest")))
            self.assertFalse(path.stem in vars(builtins), path.name)

    def test_characters_and_sizes(self):
        for path in FILES:
            rows = path.read_text(encoding="utf-8").split("\n")
            self.assertLessEqual(len(rows), 400, path.name)
            for row in rows:
                self.assertLessEqual(len(row), 120, path.name)
                self.assertRegex(row, r"\A[ -~]*\Z", path.name)

    def test_functions_have_at_most_forty_lines(self):
        for name, node in nodes(ast.FunctionDef):
            self.assertLessEqual(node.end_lineno - node.lineno + 1, 40, (name, node.name))

    def test_words_that_do_not_occur(self):
        for path in FILES:
            self.assertIsNone(WORDS.search(path.read_text(encoding="utf-8")), path.name)

    def test_no_sign_of_the_remainder_in_a_text(self):
        for name, node in nodes(ast.Constant):
            if isinstance(node.value, str):
                self.assertNotIn("%", node.value, (name, node.lineno))


class Modules(unittest.TestCase):
    def test_imports_name_the_defining_file(self):
        for name, node in nodes(ast.ImportFrom):
            self.assertEqual(node.level, 0, name)
            if node.module == "__future__":
                continue
            home = PACKAGE.parent.joinpath(*node.module.split(".")).with_suffix(".py")
            self.assertIn(home, FILES, name)
            defined = [word for part in ast.parse(home.read_text()).body if not isinstance(part, ast.ImportFrom)
                       for child in ast.walk(part) for word in bound(child)]
            for alias in node.names:
                self.assertIn(alias.name, defined, name)

    def test_no_two_files_import_from_each_other(self):
        above = {path.stem: [node.module.rpartition(".")[2] for node in tree.body if isinstance(node, ast.ImportFrom)]
                 for path, tree in trees()}
        while above:
            free = [stem for stem in above if not any(other in above for other in above[stem])]
            self.assertTrue(free, sorted(above))
            for stem in free:
                del above[stem]

    def test_module_level(self):
        for path, tree in trees():
            for at, node in enumerate(tree.body):
                docstring = at == 0 and isinstance(node, ast.Expr) and isinstance(node.value, ast.Constant)
                plain = (ast.ImportFrom, ast.FunctionDef, ast.ClassDef, ast.Assign)
                self.assertTrue(docstring or isinstance(node, plain), (path.name, node.lineno))

    def test_statements_and_values(self):
        for name, node in nodes(BARRED):
            self.fail((name, node))
        for name, node in nodes(ast.Constant):
            self.assertNotIsInstance(node.value, (float, complex), name)

    def test_is_only_with_none_and_truths(self):
        for name, node in nodes(ast.Compare):
            for sign, side in zip(node.ops, node.comparators):
                if isinstance(sign, (ast.Is, ast.IsNot)):
                    self.assertIsInstance(side, ast.Constant, (name, node.lineno))
                    self.assertIn(side.value, (None, True, False))


class Tables(unittest.TestCase):
    def test_tables_of_module_level_are_only_read(self):
        for path, tree in trees():
            tables = {target.id for node in tree.body if isinstance(node, ast.Assign) for target in node.targets
                      if isinstance(node.value, (ast.Dict, ast.List))}
            for node in ast.walk(tree):
                for part in ast.iter_child_nodes(node):
                    if isinstance(part, ast.Name) and isinstance(part.ctx, ast.Load) and part.id in tables:
                        read = (isinstance(node, ast.Subscript) and isinstance(node.ctx, ast.Load)
                                or isinstance(node, ast.Attribute) and node.attr == "get"
                                or isinstance(node, ast.Compare) and part in node.comparators)
                        self.assertTrue(read, (path.name, part.lineno))

    def test_tables_have_no_lists_or_dicts_in_them(self):
        for path, tree in trees():
            for node in tree.body:
                if isinstance(node, ast.Assign):
                    inner = [part for part in ast.walk(node.value) if part is not node.value]
                    self.assertFalse([part for part in inner if isinstance(part, (ast.Dict, ast.List, ast.Set))], path.name)


class Names(unittest.TestCase):
    def test_no_other_builtin_is_used(self):
        for name, node in nodes(ast.Name):
            if node.id in vars(builtins):
                self.assertIn(node.id, BUILTINS, (name, node.lineno))

    def test_bound_names_are_plain_and_free(self):
        for name, node in nodes(ast.AST):
            method = isinstance(node, ast.FunctionDef) and node.args.args and node.args.args[0].arg == "self"
            for word in bound(node):
                self.assertNotIn(word, NAMES, name)
                if method:
                    self.assertTrue(word in METHODS or not word.startswith("_"), (name, word))
                else:
                    self.assertFalse(word.startswith("_"), (name, word))
                    self.assertFalse(word in vars(builtins), (name, word))

    def test_a_name_is_bound_once_at_module_level(self):
        for path, tree in trees():
            words = [word for node in tree.body for part in module_bound(node) for word in bound(part)]
            self.assertEqual(len(words), len(set(words)), path.name)

    def test_no_local_name_is_an_import_or_a_class_of_its_file(self):
        for path, tree in trees():
            taken = {word for node in tree.body if isinstance(node, (ast.ImportFrom, ast.ClassDef))
                     for part in module_bound(node) for word in bound(part)}
            for part in ast.walk(tree):
                if isinstance(part, (ast.arg, ast.Name, ast.ExceptHandler)):
                    self.assertFalse(taken & set(bound(part)), (path.name, bound(part)))

    def test_attributes_are_plain(self):
        for name, node in nodes(ast.Attribute):
            self.assertNotIn(node.attr, NAMES, name)
            self.assertTrue(node.attr in METHODS or not node.attr.startswith("_"), (name, node.attr))

    def test_no_name_is_a_method_and_an_attribute(self):
        methods = {part.name for name, node in nodes(ast.ClassDef) for part in node.body
                   if isinstance(part, ast.FunctionDef)}
        stored = {node.attr for name, node in nodes(ast.Attribute) if isinstance(node.ctx, ast.Store)}
        self.assertEqual(methods & stored, set())


if __name__ == "__main__":
    unittest.main()
