"""The interface, and what the package may be made of."""

import ast
import builtins
import importlib
import inspect
import pathlib
import re
import unittest
import warnings

FOLDER = pathlib.Path(__file__).resolve().parent.parent / "goersay"

# As the document lists them: file by file, in the order of the stages.
FUNCTIONS = {
    "rests": {
        "is_rest": ["thing"], "is_number": ["thing"], "is_name": ["thing"], "has": ["rest", "number"],
        "both": ["one", "other"], "by": ["rest", "m"], "moved": ["rest", "k"], "least": ["rest"],
    },
    "orders": {
        "rests_of": ["names", "order"], "order_by": ["names", "begin", "places"], "number_of": ["names", "order"],
        "order_at": ["names", "begin", "number"],
    },
    "far": {
        "begins": ["ring", "begin"], "begin_at": ["ring", "begin", "k"], "round_at": ["ring", "begin", "k"],
        "lasts": ["ring", "begin", "k"],
    },
    "seen": {
        "is_sighting": ["thing"], "says": ["sighting"], "sighting_of": ["ring", "begin", "*many", "*then"],
    },
    "known": {
        "of_rests": ["names", "rests"], "first_clash": ["names", "sightings"],
        "is_clash": ["names", "sightings", "thing"],
    },
    "maycome": {
        "next_ones": ["known", "seats", "goers"], "how_many": ["known", "seats", "begin"],
        "order_may": ["known", "seats", "begin", "number"], "number_may": ["known", "seats", "order"],
        "slips_for": ["known", "seats", "order"], "sure": ["known", "seats", "begin"],
    },
    "tworounds": {
        "two_may": ["known", "seats", "one", "other"], "slips_for_two": ["known", "seats", "one", "other"],
        "how_many_two": ["known", "seats", "begin"],
    },
    "alike": {
        "needs": ["ring"], "alike": ["one", "other"], "least_of": ["ring"], "alike_from": ["one", "other", "begin"],
    },
    "wishes": {
        "changes_for": ["ring", "order"], "slips_wished": ["names", "sightings"], "fewest_begins": ["ring"],
        "fewest_eyes": ["ring", "begins"],
    },
    "papers": {
        "fewest_last": ["ring", "begin", "last"], "is_paper": ["ring", "begin", "last", "number", "thing"],
    },
    "changes": {"after": ["known", "word", "parts"]},
    "logs": {"log_of": ["house"], "first_wrong": ["log"], "slips_of": ["log"]},
    "texts": {
        "ring_text": ["ring"], "read_ring": ["text"], "sighting_text": ["sighting"], "read_sighting": ["text"],
    },
    "desk": {"answers": ["text"]},
}
METHODS = {
    ("rings", "Ring"): {
        "__init__": ["names", "slips"], "names": [], "slips": [], "slip": ["name"], "order": ["begin"],
        "next_of": ["begin"], "with_slip": ["name", "number"], "__eq__": ["other"], "__len__": [],
    },
    ("known", "Known"): {
        "__init__": ["names"], "see": ["sighting"], "names": [], "rests": [], "rest": ["name"], "seen": [],
        "fits": ["slips"], "least": [], "twin": [], "__eq__": ["other"],
    },
    ("house", "House"): {
        "__init__": ["names", "slips"], "do": ["deed"], "begun": [], "ring": [], "watchers": [], "known": ["watcher"],
        "together": ["watchers"], "deeds": [], "all_done": ["deeds"], "undo": [], "twin": [], "__eq__": ["other"],
    },
    ("desk", "Desk"): {"__init__": [], "say": ["row"]},
}
STAGES = [
    "errors", "rests", "rings", "orders", "far", "seen", "known", "maycome", "tworounds", "alike", "wishes", "papers",
    "changes", "house", "logs", "texts", "desk",
]

MAY_IMPORT = {"heapq", "math", "itertools", "collections"}
MAY_CALL = set("""len range enumerate zip min max sum abs sorted reversed int str bool list tuple dict set isinstance
    ord repr any all divmod iter next ValueError TypeError KeyError NotImplemented""".split())
MAY_DOUBLE = {"__init__", "__eq__", "__repr__", "__str__", "__len__"}
BARRED_NODES = (
    ast.Global, ast.AsyncFunctionDef, ast.Await, ast.AsyncFor, ast.AsyncWith, ast.Import, ast.Div, ast.MatMult,
    ast.GeneratorExp, ast.Yield, ast.YieldFrom,
)


def files():
    return sorted(FOLDER.glob("*.py"))


def trees():
    return [(path, ast.parse(path.read_text(encoding="utf-8"))) for path in files()]


def arguments_of(function):
    """The names of the arguments, those that go by name alone with a star ahead."""
    told = inspect.signature(function).parameters.values()
    return [("*" if one.kind == one.KEYWORD_ONLY else "") + one.name for one in told]


class InterfaceTest(unittest.TestCase):
    def test_functions_are_defined_in_their_files(self):
        for file, functions in FUNCTIONS.items():
            module = importlib.import_module(f"goersay.{file}")
            for name, arguments in functions.items():
                with self.subTest(file=file, name=name):
                    function = getattr(module, name)
                    self.assertEqual(function.__module__, module.__name__)
                    self.assertEqual(arguments_of(function), arguments)

    def test_methods_are_defined_in_their_classes(self):
        for (file, name), methods in METHODS.items():
            owner = getattr(importlib.import_module(f"goersay.{file}"), name)
            self.assertEqual(owner.__module__, f"goersay.{file}")
            for method, arguments in methods.items():
                with self.subTest(owner=name, method=method):
                    self.assertIn(method, vars(owner))
                    self.assertEqual(arguments_of(vars(owner)[method])[1:], arguments)

    def test_init_binds_nothing(self):
        tree = ast.parse((FOLDER / "__init__.py").read_text(encoding="utf-8"))
        self.assertEqual([node for node in tree.body if not isinstance(node, ast.Expr)], [])

    def test_each_stage_uses_those_ahead_of_it_alone(self):
        self.assertEqual(sorted(STAGES + ["__init__"]), [path.stem for path in files()])
        for at, file in enumerate(STAGES):
            text = (FOLDER / f"{file}.py").read_text(encoding="utf-8")
            for used in re.findall(r"goersay\.(\w+)", text):
                self.assertIn(used, STAGES[:at], f"{file} uses {used}")


class LanguageTest(unittest.TestCase):
    def test_the_folder_holds_python_files_alone(self):
        for path in FOLDER.iterdir():
            if path.name != "__pycache__":
                self.assertRegex(path.name, r"^[a-z0-9_]+\.py$")

    def test_sizes_and_signs(self):
        for path in files():
            text = path.read_text(encoding="utf-8")
            self.assertRegex(text, r"\A[ -~\n]*\Z", path.name)
            self.assertLessEqual(len(text.splitlines()), 399, path.name)
            self.assertLessEqual(max(map(len, text.splitlines())), 120, path.name)

    def test_no_warnings(self):
        for path in files():
            with warnings.catch_warnings():
                warnings.simplefilter("error")
                compile(path.read_text(encoding="utf-8"), path.name, "exec")

    def test_imports(self):
        for path, tree in trees():
            for node in ast.walk(tree):
                if isinstance(node, ast.ImportFrom):
                    self.assertIn(node, tree.body, path.name)
                    self.assertEqual(node.level, 0, path.name)
                    if not re.fullmatch(r"goersay\.\w+", node.module):
                        self.assertIn(node.module, MAY_IMPORT, path.name)

    def test_statements(self):
        for path, tree in trees():
            for node in ast.walk(tree):
                with self.subTest(path.name, line=getattr(node, "lineno", 0)):
                    self.assertNotIsInstance(node, BARRED_NODES)
                    if isinstance(node, ast.Constant):
                        self.assertNotIsInstance(node.value, (float, complex, bytes))
                        self.assertFalse(isinstance(node.value, str) and "%" in node.value)
                    if isinstance(node, (ast.FunctionDef, ast.ClassDef)):
                        self.assertEqual(node.decorator_list, [])

    def test_functions_are_small_and_double_underscores_few(self):
        for path, tree in trees():
            for node in ast.walk(tree):
                if isinstance(node, ast.FunctionDef):
                    self.assertLessEqual(node.end_lineno - node.lineno + 1, 40, node.name)
                    if node.name.startswith("__"):
                        self.assertIn(node.name, MAY_DOUBLE, path.name)

    def test_builtins(self):
        for path, tree in trees():
            for node in ast.walk(tree):
                if isinstance(node, ast.Name) and hasattr(builtins, node.id):
                    self.assertIsInstance(node.ctx, ast.Load, f"{path.name}: {node.id}")
                    self.assertIn(node.id, MAY_CALL, path.name)
                if isinstance(node, ast.arg):
                    self.assertFalse(hasattr(builtins, node.arg), f"{path.name}: {node.arg}")

    def test_no_name_of_an_import_or_a_class_is_taken_again(self):
        for path, tree in trees():
            bound = [name.asname or name.name for node in tree.body if isinstance(node, ast.ImportFrom)
                     for name in node.names]
            bound += [node.name for node in tree.body if isinstance(node, (ast.ClassDef, ast.FunctionDef))]
            bound += [node.targets[0].id for node in tree.body if isinstance(node, ast.Assign)]
            self.assertEqual(len(set(bound)), len(bound), path.name)
            for node in ast.walk(tree):
                if isinstance(node, ast.arg):
                    self.assertNotIn(node.arg, bound, path.name)
                if isinstance(node, ast.Name) and isinstance(node.ctx, ast.Store) and node.col_offset > 0:
                    self.assertNotIn(node.id, bound, path.name)


if __name__ == "__main__":
    unittest.main()
