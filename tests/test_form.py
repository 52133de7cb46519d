"""The form of the code, as far as a look at the files tells it, and the interface's names and arguments."""

import ast
import builtins
import importlib
import inspect
import pathlib
import unittest

PACKAGE = pathlib.Path(__file__).resolve().parent.parent / "giveback"
FILES = sorted(path for path in PACKAGE.rglob("*") if path.is_file() and "__pycache__" not in path.parts)
LIBRARY = {"math": {"gcd", "lcm"}, "itertools": {"combinations"}}
BUILTINS = {
    "len", "range", "enumerate", "zip", "min", "max", "sum", "abs", "sorted", "reversed", "int", "str", "bool", "list",
    "tuple", "dict", "set", "isinstance", "any", "all", "divmod", "repr", "ValueError", "KeyError", "LookupError",
    "ArithmeticError", "RuntimeError", "TypeError", "IndexError",
}
METHODS = {
    "append", "clear", "copy", "count", "extend", "find", "get", "index", "insert", "items", "join", "keys", "pop",
    "remove", "reverse", "setdefault", "split", "startswith", "endswith", "strip", "update", "values", "isdigit", "partition",
}
BARRED = (
    ast.AsyncFor, ast.AsyncFunctionDef, ast.AsyncWith, ast.Await, ast.Div, ast.GeneratorExp, ast.Global, ast.Import,
    ast.Lambda, ast.MatMult, ast.Match, ast.NamedExpr, ast.Nonlocal, ast.Try, ast.With, ast.Yield, ast.YieldFrom,
)
INTERFACE = {
    "webs": {"lots_of": "web posts", "need_standing": "web standing"},
    "beats": {"beat_on": "web standing", "beat_back": "web standing", "run_of": "web standing beats"},
    "kinds": {"kinds_of": "web", "is_kind": "web posts word weights", "steps_of": "web posts weights standing"},
    "returning": {"comes_back": "web standing", "never_paper": "web standing", "shows_never": "web standing thing"},
    "shapes": {"shape_of": "web posts", "home_of": "web posts", "home_beats": "web"},
    "peaks": {"most_ever": "web standing post", "first_above": "web standing post number"},
    "far": {"standing_behind": "web standing beats"},
    "waves": {"wave_beats": "web posts", "last_owed": "web standing"},
    "between": {"beats_between": "web one other"},
    "debts": {
        "debts_of": "web standing", "single": "web beat post", "standing_of": "web debts", "together": "web one other",
    },
    "sights": {
        "shows_all": "web standing sights", "showing": "web sights", "first_shown": "web sights", "blame": "web sights",
    },
    "rings": {
        "row_web": "size", "cord_at": "size post beat", "cords_of": "size standing", "standing_by": "size cords",
        "turned_cords": "size cords",
    },
    "cases": {"cases_of": "web posts half"},
    "caselooks": {"shows_cases": "web posts half thing"},
    "changes": {
        "renamed": "web order", "beside": "one other", "without": "web pairs", "alone": "web posts",
        "renamed_standing": "web standing order", "beside_standing": "one standing other more",
        "alone_standing": "web standing posts",
    },
    "folds": {
        "folded": "web lots", "folded_standing": "web lots standing", "spread_standing": "web lots standing",
    },
    "cuts": {"fewest_cuts": "web", "cut_paper": "web", "shows_cuts": "web told thing"},
    "texts": {
        "show_web": "web", "show_standing": "standing", "show_debts": "debts", "show_cords": "cords",
        "read_web": "text", "read_standing": "web text", "read_debts": "web text", "read_cords": "size text",
    },
}
CLASSES = {
    "webs": {
        "Web": {
            "__init__": "size ties", "ties": "", "cords": "one other", "parts": "", "__len__": "", "__eq__": "other",
        },
    },
    "works": {
        "Works": {
            "__init__": "web", "put": "post number", "bind": "one other there back", "cut": "one other", "go": "beats",
            "undo": "", "web": "upto", "standing": "upto", "kinds": "upto", "comes_back": "upto", "deeds": "",
            "__len__": "",
        },
    },
    "desk": {"Desk": {"__init__": "", "say": "row"}},
}


def trees():
    """(path, tree) of each file."""
    return [(path, ast.parse(path.read_text(encoding="utf-8"))) for path in FILES]


def functions(tree):
    """All functions and methods of a file."""
    return [node for node in ast.walk(tree) if isinstance(node, ast.FunctionDef)]


def names_of(tree):
    """The functions, classes and names that a file binds itself."""
    found = set()
    for node in tree.body:
        if isinstance(node, (ast.FunctionDef, ast.ClassDef)):
            found.add(node.name)
        elif isinstance(node, ast.Assign):
            found |= {target.id for target in node.targets}
    return found


class TestForm(unittest.TestCase):

    def test_files(self):
        self.assertIn(PACKAGE / "__init__.py", FILES)
        for path in FILES:
            self.assertEqual((path.suffix, path.parent), (".py", PACKAGE))
            self.assertEqual(path.name, path.name.lower())

    def test_sizes_and_signs(self):
        for path, tree in trees():
            text = path.read_text(encoding="utf-8")
            lines = text.split("\n")
            self.assertLessEqual(len(lines), 399, path)
            self.assertTrue(all(len(line) <= 120 for line in lines), path)
            self.assertTrue(all(sign == "\n" or " " <= sign <= "~" for sign in text), path)
            for function in functions(tree):
                self.assertLessEqual(function.end_lineno - function.lineno, 39, (path, function.name))

    def test_what_stands_at_module_level(self):
        for path, tree in trees():
            for node in tree.body[1:]:
                self.assertIsInstance(node, (ast.ImportFrom, ast.FunctionDef, ast.ClassDef, ast.Assign), path)
            self.assertIsInstance(tree.body[0].value, ast.Constant, path)

    def test_imports(self):
        own = {f"giveback.{path.stem}": names_of(tree) for path, tree in trees()}
        leads = {}
        for path, tree in trees():
            nodes = [node for node in ast.walk(tree) if isinstance(node, ast.ImportFrom)]
            self.assertTrue(all(node in tree.body for node in nodes), path)
            for node in nodes:
                self.assertEqual(node.level, 0, path)
                allowed = own.get(node.module) or LIBRARY.get(node.module, set())
                for name in node.names:
                    self.assertIn(name.name, allowed, path)
                    self.assertIsNone(name.asname, path)
            leads[f"giveback.{path.stem}"] = [node.module for node in nodes if node.module in own]
        while leads:
            free = [name for name, ahead in leads.items() if not any(other in leads for other in ahead)]
            self.assertTrue(free, leads)
            leads = {name: ahead for name, ahead in leads.items() if name not in free}

    def test_imports_are_used(self):
        for path, tree in trees():
            bound = {name.name for node in tree.body if isinstance(node, ast.ImportFrom) for name in node.names}
            used = {node.id for node in ast.walk(tree) if isinstance(node, ast.Name)}
            self.assertEqual(bound - used, set(), path)

    def test_words_of_the_language(self):
        for path, tree in trees():
            for node in ast.walk(tree):
                self.assertNotIsInstance(node, BARRED, (path, getattr(node, "lineno", None)))
                if isinstance(node, ast.Constant):
                    self.assertNotIsInstance(node.value, (float, complex, bytes), path)
                if isinstance(node, (ast.FunctionDef, ast.ClassDef)):
                    self.assertEqual(node.decorator_list, [], path)

    def test_calls(self):
        methods = {method.name for _, tree in trees() for method in functions(tree)}
        for path, tree in trees():
            imports = [node for node in tree.body if isinstance(node, ast.ImportFrom)]
            bound = names_of(tree) | {name.name for node in imports for name in node.names}
            for node in ast.walk(tree):
                if isinstance(node, ast.Call) and isinstance(node.func, ast.Name):
                    self.assertTrue(node.func.id in bound or node.func.id in BUILTINS, (path, node.lineno))
                elif isinstance(node, ast.Call):
                    self.assertIn(node.func.attr, METHODS | methods, (path, node.lineno))

    def test_names_are_nobody_elses(self):
        for path, tree in trees():
            taken = set(dir(builtins))
            for node in tree.body:
                if isinstance(node, ast.ImportFrom):
                    taken |= {name.name for name in node.names}
                elif isinstance(node, ast.ClassDef):
                    taken.add(node.name)
            for node in ast.walk(tree):
                if isinstance(node, ast.Name) and isinstance(node.ctx, ast.Store):
                    self.assertNotIn(node.id, taken, (path, node.lineno))
                elif isinstance(node, ast.arg):
                    self.assertNotIn(node.arg, taken, (path, node.lineno))


class TestInterface(unittest.TestCase):

    def test_functions(self):
        for file, told in INTERFACE.items():
            module = importlib.import_module(f"giveback.{file}")
            for name, arguments in told.items():
                function = getattr(module, name)
                self.assertEqual(function.__module__, module.__name__)
                self.assertEqual(list(inspect.signature(function).parameters), arguments.split())

    def test_classes(self):
        for file, classes in CLASSES.items():
            module = importlib.import_module(f"giveback.{file}")
            for name, methods in classes.items():
                self.assertEqual(getattr(module, name).__module__, module.__name__)
                for method, arguments in methods.items():
                    function = vars(getattr(module, name))[method]
                    told = inspect.signature(function).parameters
                    self.assertEqual(list(told), ["self"] + arguments.split())
                    for argument in told.values():
                        alone = argument.name == "upto"
                        self.assertEqual(argument.kind == inspect.Parameter.KEYWORD_ONLY, alone)
                        self.assertEqual(argument.default is None, alone)


if __name__ == "__main__":
    unittest.main()
