"""The package's files keep to the small part of Python they are written in, as far as a test can see it."""

import ast
import builtins
import re
import unittest
from pathlib import Path

FOLDER = Path(__file__).resolve().parent.parent / "plantsdown"
FILES = sorted(path for path in FOLDER.rglob("*") if path.is_file() and "__pycache__" not in path.parts)
BUILT_IN = set("""len range enumerate zip min max sum abs sorted reversed int str bool list tuple dict set frozenset
    isinstance ord repr any all divmod""".split())
METHODS = set("""append clear copy count endswith extend find get index insert isalnum isalpha isdigit islower isspace
    isupper items join keys ljust lower lstrip partition pop remove replace reverse rfind rjust rpartition rsplit rstrip
    setdefault split splitlines startswith strip update upper values zfill bit_length""".split())
NODES = set("""Module Expr Constant Import ImportFrom alias FunctionDef arguments arg ClassDef Assign AugAssign If While
    For Return Break Continue Pass Raise Name Load Store Attribute Subscript Slice Call keyword List Tuple Dict ListComp
    comprehension BinOp UnaryOp BoolOp Compare IfExp Add Sub Mult FloorDiv Mod USub Not And Or Eq NotEq Lt LtE Gt GtE In
    NotIn Is IsNot""".split())
BARRED_WORDS = set("""type typing typing_extensions enum Enum IntEnum StrEnum Flag IntFlag Generic Protocol ABC ABCMeta
    namedtuple NamedTuple TypedDict TYPE_CHECKING abstractmethod""".split())
BARRED_NAMES = set("""register mro elements open input version_info with_traceback add_note format format_map super
    eval exec exit quit dir vars globals locals getattr setattr hasattr delattr compile id help""".split())
OWN_NAMES_OF_VALUES = {name for kind in (str, int, list, dict, set, bytes) for name in dir(kind)}


def tree_of(path):
    return ast.parse(path.read_text(encoding="utf-8"))


def nodes_of(*kinds):
    return [(path, node) for path in FILES for node in ast.walk(tree_of(path)) if isinstance(node, kinds)]


def places(found):
    return [f"{path.name}:{node.lineno}" for path, node in found]


def bound_names(tree):
    """Names that a def binds: its parameters and locals."""
    names = [node.arg for node in ast.walk(tree) if isinstance(node, ast.arg)]
    return names + [node.id for node in ast.walk(tree) if isinstance(node, ast.Name) and isinstance(node.ctx, ast.Store)]


class FilesTest(unittest.TestCase):
    def test_plain_files(self):
        self.assertIn(FOLDER / "__init__.py", FILES)
        for path in FILES:
            self.assertEqual(path.parent, FOLDER)
            self.assertRegex(path.name, r"^([a-z][a-z0-9_]*|__init__|__main__)\.py$")

    def test_signs_and_sizes(self):
        for path in FILES:
            text = path.read_text(encoding="utf-8")
            self.assertRegex(text, r"^[ -~\n]*$", path.name)
            lines = text.split("\n")
            self.assertLessEqual(len(lines), 400, path.name)
            self.assertLessEqual(max(len(line) for line in lines), 120, path.name)

    def test_barred_words(self):
        for path in FILES:
            self.assertEqual(set(re.findall(r"\w+", path.read_text(encoding="utf-8"))) & BARRED_WORDS, set(), path.name)

    def test_no_function_of_more_than_40_lines(self):
        long = [(path, node) for path, node in nodes_of(ast.FunctionDef) if node.end_lineno - node.lineno >= 40]
        self.assertEqual(places(long), [])


class TopTest(unittest.TestCase):
    def test_only_what_may_stand_there(self):
        for path in FILES:
            for node in tree_of(path).body:
                self.assertIsInstance(node, (ast.Expr, ast.ImportFrom, ast.FunctionDef, ast.ClassDef, ast.Assign))
                if isinstance(node, ast.Expr):
                    self.assertIsInstance(node.value, ast.Constant)

    def test_no_list_or_dict_within_another(self):
        for path in FILES:
            for node in tree_of(path).body:
                if isinstance(node, ast.Assign):
                    within = [part for part in ast.walk(node.value) if part != node.value]
                    self.assertEqual([part for part in within if isinstance(part, (ast.List, ast.Dict, ast.Call))], [])

    def test_each_name_once(self):
        for path in FILES:
            names = []
            for node in tree_of(path).body:
                names += [target.id for target in getattr(node, "targets", [])]
                names += [node.name] if isinstance(node, (ast.FunctionDef, ast.ClassDef)) else []
                names += [alias.name for alias in node.names] if isinstance(node, ast.ImportFrom) else []
            self.assertEqual(sorted(names), sorted(set(names)), path.name)

    def test_imports_of_the_package_alone(self):
        self.assertEqual(places(nodes_of(ast.Import)), [])
        for path, node in nodes_of(ast.ImportFrom):
            self.assertEqual(node.level, 0)
            self.assertRegex(node.module, r"^plantsdown\.\w+$")
            defined = tree_of(FOLDER / (node.module.split(".")[1] + ".py")).body
            names = [found.name for found in defined if isinstance(found, (ast.FunctionDef, ast.ClassDef))]
            for alias in node.names:
                self.assertIn(alias.name, names)
                self.assertIsNone(alias.asname)

    def test_no_two_files_draw_from_one_another(self):
        drawn = {path.stem: [] for path in FILES}
        for path, node in nodes_of(ast.ImportFrom):
            drawn[path.stem].append(node.module.split(".")[1])
        while drawn:
            free = [name for name, others in drawn.items() if not any(other in drawn for other in others)]
            self.assertNotEqual(free, [], drawn)
            for name in free:
                drawn.pop(name)


class FormTest(unittest.TestCase):
    def test_only_the_forms_that_are_used(self):
        found = [(path, node) for path, node in nodes_of(ast.AST) if type(node).__name__ not in NODES]
        self.assertEqual([type(node).__name__ for path, node in found], [])

    def test_plain_functions(self):
        for path, node in nodes_of(ast.FunctionDef):
            self.assertEqual(node.decorator_list, [])
            self.assertIsNone(node.args.vararg or node.args.kwarg or node.returns)
            self.assertEqual(node.args.kwonlyargs + node.args.posonlyargs, [])
            self.assertEqual([arg for arg in node.args.args if arg.annotation is not None], [])

    def test_one_target(self):
        found = [(path, node) for path, node in nodes_of(ast.Assign) if len(node.targets) > 1
                 or isinstance(node.targets[0], ast.Tuple)]
        self.assertEqual(places(found), [])

    def test_plain_values(self):
        for path, node in nodes_of(ast.Constant):
            self.assertIn(type(node.value), (int, str, bool, type(None)))

    def test_no_sets(self):
        self.assertEqual(places(nodes_of(ast.Set, ast.SetComp)), [])
        self.assertEqual([node.id for path, node in nodes_of(ast.Name) if node.id in ("set", "frozenset")], [])

    def test_keywords(self):
        for path, node in nodes_of(ast.Call):
            for keyword in node.keywords:
                self.assertEqual((node.func.id, keyword.arg), ("zip", "strict"), places([(path, node)]))
                self.assertIsInstance(keyword.value, ast.Constant)

    def test_walked_at_once(self):
        walked = [node.iter for path, node in nodes_of(ast.For, ast.comprehension)]
        walked += [node.args[0] for path, node in nodes_of(ast.Call)
                   if node.args and getattr(node.func, "id", None) in ("list", "tuple", "dict", "sorted", "sum")]
        spots = {(ast.unparse(node), node.lineno, node.col_offset) for node in walked}
        for path, node in nodes_of(ast.Call):
            if getattr(node.func, "id", None) in ("zip", "enumerate", "reversed", "range"):
                self.assertIn((ast.unparse(node), node.lineno, node.col_offset), spots, path.name)
            if isinstance(node.func, ast.Attribute):
                self.assertNotIn(node.func.attr, ("items", "keys", "values"), path.name)

    def test_comprehensions(self):
        for path, node in nodes_of(ast.ListComp):
            self.assertEqual(len(node.generators), 1)
            self.assertLessEqual(len(node.generators[0].ifs), 1)

    def test_is_beside_none_true_false(self):
        for path, node in nodes_of(ast.Compare):
            for operator, right in zip(node.ops, node.comparators):
                if isinstance(operator, (ast.Is, ast.IsNot)):
                    self.assertIsInstance(right, ast.Constant)


class NamesTest(unittest.TestCase):
    def test_plain_names(self):
        for path, node in nodes_of(ast.Name, ast.Attribute, ast.arg, ast.FunctionDef, ast.ClassDef):
            name = [getattr(node, part) for part in ("id", "attr", "arg", "name") if hasattr(node, part)][0]
            if name != "__init__":
                self.assertRegex(name, r"^[A-Za-z][A-Za-z0-9_]*$")
            self.assertNotIn(name, BARRED_NAMES)

    def test_built_in_names(self):
        for path, node in nodes_of(ast.Name):
            if node.id in dir(builtins):
                self.assertIn(node.id, BUILT_IN, places([(path, node)]))
                self.assertIsInstance(node.ctx, ast.Load)

    def test_no_parameter_or_local_hides_another_name(self):
        for path in FILES:
            top = tree_of(path).body
            taken = set(dir(builtins)) | {node.name for node in top if isinstance(node, (ast.FunctionDef, ast.ClassDef))}
            taken |= {alias.name for node in top if isinstance(node, ast.ImportFrom) for alias in node.names}
            self.assertEqual(taken & set(bound_names(tree_of(path))), set(), path.name)

    def test_methods(self):
        own = {node.name for path, owner in nodes_of(ast.ClassDef) for node in owner.body
               if isinstance(node, ast.FunctionDef)}
        kept = {node.attr for path, node in nodes_of(ast.Attribute) if isinstance(node.ctx, ast.Store)}
        self.assertEqual(own & kept, set())
        self.assertEqual((own | kept) & OWN_NAMES_OF_VALUES, {"__init__"})
        for path, node in nodes_of(ast.Call):
            if isinstance(node.func, ast.Attribute):
                self.assertIn(node.func.attr, METHODS | own)

    def test_no_list_or_dict_of_a_top_is_changed(self):
        for path in FILES:
            top = [node.targets[0].id for node in tree_of(path).body if isinstance(node, ast.Assign)]
            for node in ast.walk(tree_of(path)):
                if isinstance(node, ast.Subscript) and isinstance(node.ctx, ast.Store):
                    self.assertNotIn(getattr(node.value, "id", None), top)
                if isinstance(node, ast.Call) and isinstance(node.func, ast.Attribute):
                    if getattr(node.func.value, "id", None) in top:
                        self.assertEqual(node.func.attr, "get")


if __name__ == "__main__":
    unittest.main()
