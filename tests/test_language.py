"""The package keeps to its subset of Python, as far as that can be read off the files."""

import ast
import re
import unittest
from pathlib import Path

FOLDER = Path(__file__).resolve().parent.parent / "seekways"
FILES = sorted(path for path in FOLDER.rglob("*") if "__pycache__" not in path.parts)
TREES = {path.name: ast.parse(path.read_text(encoding="utf-8")) for path in FILES}

BUILTINS = set("""len range enumerate zip min max sum abs sorted reversed int str bool list tuple dict set
    isinstance ord repr any all divmod ValueError KeyError""".split())
BARRED = re.compile(r"\b(type|typing|typing_extensions|enum|Enum|IntEnum|StrEnum|Flag|IntFlag|Generic|Protocol"
                    r"|ABC|ABCMeta|namedtuple|NamedTuple|TypedDict|TYPE_CHECKING|abstractmethod)\b"
                    r"|dataclass|overload|contextmanager")
TAKE_A_LIST = ("any", "all", "min", "max", "sum", "sorted")


def nodes(*kinds):
    """All nodes of these kinds, each with the name of its file."""
    return [(name, node) for name, tree in TREES.items() for node in ast.walk(tree) if isinstance(node, kinds)]


def methods_and_attributes():
    methods = {item.name for name, node in nodes(ast.ClassDef) for item in node.body
               if isinstance(item, ast.FunctionDef)}
    stored = {node.attr for name, node in nodes(ast.Attribute) if isinstance(node.ctx, ast.Store)}
    return methods, stored


class Files(unittest.TestCase):
    def test_plain_python_files_alone(self):
        for path in FILES:
            self.assertRegex(path.name, r"^[a-z_]+\.py$")

    def test_sizes_and_signs(self):
        for path in FILES:
            text = path.read_text(encoding="utf-8")
            rows = text.split("\n")
            self.assertLess(len(rows), 400, path.name)
            self.assertLessEqual(max(map(len, rows)), 120, path.name)
            self.assertRegex(text, r"^[ -~\n]*$")
            self.assertIsNone(BARRED.search(text), path.name)

    def test_functions_are_short(self):
        for name, node in nodes(ast.FunctionDef):
            self.assertLessEqual(node.end_lineno - node.lineno + 1, 40, (name, node.name))


class Names(unittest.TestCase):
    def test_imports_name_the_very_file_that_defines_the_name(self):
        self.assertEqual(nodes(ast.Import), [])
        for name, node in nodes(ast.ImportFrom):
            self.assertEqual(node.level, 0)
            self.assertTrue(node.module.startswith("seekways."), (name, node.module))
            tree = TREES[node.module.split(".")[1] + ".py"]
            bound = {item.name for item in tree.body if isinstance(item, (ast.FunctionDef, ast.ClassDef))}
            bound |= {item.targets[0].id for item in tree.body if isinstance(item, ast.Assign)}
            for alias in node.names:
                self.assertIn(alias.name, bound, (name, node.module))

    def test_no_two_files_import_from_each_other(self):
        needs = {name: set() for name in TREES}
        for name, node in nodes(ast.ImportFrom):
            needs[name].add(node.module.split(".")[1] + ".py")
        while needs:
            free = [name for name, files in needs.items() if not files & set(needs)]
            self.assertNotEqual(free, [], needs)
            for name in free:
                del needs[name]

    def test_no_name_in_a_function_is_that_of_a_class_or_an_import_of_its_file(self):
        for name, tree in TREES.items():
            taken = {alias.name for node in ast.walk(tree) if isinstance(node, ast.ImportFrom) for alias in node.names}
            taken |= {node.name for node in ast.walk(tree) if isinstance(node, ast.ClassDef)}
            used = {node.id for node in ast.walk(tree) if isinstance(node, ast.Name) and isinstance(node.ctx, ast.Store)}
            used |= {node.arg for node in ast.walk(tree) if isinstance(node, ast.arg)}
            self.assertEqual(taken & used, set(), name)

    def test_no_name_is_one_that_may_not_be(self):
        barred = {"register", "mro", "elements", "open", "input", "law", "version_info", "with_traceback", "add_note"}
        names = {node.id for name, node in nodes(ast.Name)} | {node.attr for name, node in nodes(ast.Attribute)}
        names |= {node.name for name, node in nodes(ast.FunctionDef, ast.ClassDef)}
        self.assertEqual(names & barred, set())

    def test_what_is_imported_is_used(self):
        for name, node in nodes(ast.ImportFrom):
            read = {item.id for item in ast.walk(TREES[name]) if isinstance(item, ast.Name)}
            for alias in node.names:
                self.assertIn(alias.name, read, name)

    def test_only_listed_builtins_are_used_and_none_is_bound(self):
        known = set(dir(__builtins__) if not isinstance(__builtins__, dict) else __builtins__)
        for name, node in nodes(ast.Name):
            if node.id in known:
                self.assertIn(node.id, BUILTINS, (name, node.lineno))
                self.assertIsInstance(node.ctx, ast.Load, (name, node.lineno))
        for name, node in nodes(ast.arg):
            self.assertNotIn(node.arg, known, (name, node.lineno))

    def test_no_name_begins_with_an_underscore(self):
        for name, node in nodes(ast.Name):
            self.assertFalse(node.id.startswith("_"), (name, node.lineno))

    def test_no_name_is_a_method_here_and_an_attribute_there(self):
        methods, stored = methods_and_attributes()
        self.assertEqual(methods & stored, set())


class Expressions(unittest.TestCase):
    def test_is_stands_beside_none_true_and_false_alone(self):
        for name, node in nodes(ast.Compare):
            for sign, right in zip(node.ops, node.comparators):
                if isinstance(sign, (ast.Is, ast.IsNot)):
                    self.assertIsInstance(right, ast.Constant, (name, node.lineno))
                    self.assertIn(right.value, (None, True, False))

    def test_no_generator_expression_where_a_list_is_asked(self):
        for name, node in nodes(ast.Call):
            if isinstance(node.func, ast.Name) and node.func.id in TAKE_A_LIST:
                for part in node.args:
                    self.assertNotIsInstance(part, ast.GeneratorExp, (name, node.lineno))

    def test_errors_are_made_where_they_are_raised_and_caught_by_name(self):
        own = {node.name for node in TREES["errors.py"].body if isinstance(node, ast.ClassDef)}
        for name, node in nodes(ast.Raise):
            if node.exc is not None:
                self.assertIsInstance(node.exc, ast.Call, (name, node.lineno))
                self.assertIn(node.exc.func.id, own, (name, node.lineno))
        for name, node in nodes(ast.ExceptHandler):
            self.assertIn(node.type.id, own, (name, node.lineno))

    def test_no_set_is_stored_in_an_object_and_nothing_is_sorted_in_place(self):
        for name, node in nodes(ast.Attribute):
            self.assertNotIn(node.attr, ("sort", "format", "union", "difference"), (name, node.lineno))
        for name, node in nodes(ast.Assign):
            self.assertNotIsInstance(node.value, (ast.Set, ast.SetComp), (name, node.lineno))

    def test_strings_have_no_percent_sign_and_no_barred_ending(self):
        for name, node in nodes(ast.Constant):
            if isinstance(node.value, str):
                self.assertNotIn("%", node.value, (name, node.lineno))
                self.assertFalse(node.value.endswith(("._", ".__")), (name, node.lineno))

    def test_strings_within_f_strings(self):
        for name, node in nodes(ast.JoinedStr):
            row = (FOLDER / name).read_text(encoding="utf-8").split("\n")[node.lineno - 1]
            self.assertEqual(node.lineno, node.end_lineno, (name, node.lineno))
            inner = [one for part in node.values if isinstance(part, ast.FormattedValue) for one in ast.walk(part.value)]
            self.assertFalse(any(isinstance(one, ast.JoinedStr) for one in inner), (name, node.lineno))
            if any(isinstance(one, ast.Constant) and isinstance(one.value, str) for one in inner):
                self.assertNotIn("\\", row, (name, node.lineno))
                self.assertNotIn("#", row, (name, node.lineno))

    def test_finally_puts_down_plain_things_alone(self):
        methods, stored = methods_and_attributes()
        self.assertNotIn("append", methods | stored)
        for name, node in nodes(ast.Try):
            for item in node.finalbody:
                if isinstance(item, ast.Expr):
                    self.assertEqual(item.value.func.attr, "append", (name, item.lineno))
                else:
                    self.assertIsInstance(item, ast.Assign, (name, item.lineno))
                    self.assertIsInstance(item.value, (ast.Constant, ast.Name, ast.Attribute), (name, item.lineno))

    def test_attributes_that_are_read_are_stored_by_some_class(self):
        methods, stored = methods_and_attributes()
        called = {id(node.func) for name, node in nodes(ast.Call)}
        for name, node in nodes(ast.Attribute):
            if isinstance(node.ctx, ast.Load) and id(node) not in called:
                self.assertIn(node.attr, stored, (name, node.lineno))

    def test_no_float_no_division_no_global(self):
        self.assertEqual(nodes(ast.Div, ast.Global, ast.AsyncFunctionDef), [])
        for name, node in nodes(ast.Constant):
            self.assertNotIsInstance(node.value, float, (name, node.lineno))


if __name__ == "__main__":
    unittest.main()
