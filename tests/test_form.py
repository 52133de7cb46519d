"""The form of the code, as far as a look at the files tells it, and the interface's names and arguments."""

import ast
import builtins
import importlib
import inspect
import pathlib
import unittest

PACKAGE = pathlib.Path(__file__).resolve().parent.parent / "giveback"
FILES = sorted(path for path in PACKAGE.rglob("*") if path.is_file() and "__pycache__" not in path.parts)
LIBRARY = {"math": {"gcd", "lcm"}, "itertools": {"combinations"}}
BUILTINS = {
    "len", "range", "enumerate", "zip", "min", "max", "sum", "abs", "sorted", "reversed", "int", "str", "bool", "list",
    "tuple", "dict", "set", "isinstance", "any", "all", "divmod", "repr", "ValueError", "KeyError", "LookupError",
    "ArithmeticError", "RuntimeError", "TypeError", "IndexError",
}
METHODS = {
    "append", "clear", "copy", "count", "extend", "find", "get", "index", "insert", "items", "join", "keys", "pop",
    "remove", "reverse", "setdefault", "split", "startswith", "endswith", "strip", "update", "values", "isdigit", "partition",
}
BARRED = (
    ast.AsyncFor, ast.AsyncFunctionDef, ast.AsyncWith, ast.Await, ast.Div, ast.GeneratorExp, ast.Global, ast.Import,
    ast.Lambda, ast.MatMult, ast.Match, ast.NamedExpr, ast.Nonlocal, ast.Try, ast.With, ast.Yield, ast.YieldFrom,
)
WALKERS = {"list", "tuple", "sorted", "sum", "min", "max", "any", "all"}
# What is walked on the spot, by name, and what may take it, first and alone, beside a for and a comprehension.
WALKED = {
    "range": WALKERS | {"dict", "enumerate", "zip", "len", "reversed"},
    "zip": WALKERS | {"dict", "enumerate", "zip"},
    "enumerate": WALKERS | {"dict", "enumerate", "zip"},
    "reversed": WALKERS | {"dict", "enumerate", "zip"},
    "items": WALKERS | {"dict", "enumerate", "zip", "len"},
    "keys": WALKERS | {"dict", "enumerate", "zip", "len"},
    "values": WALKERS | {"dict", "enumerate", "zip", "len"},
    "combinations": WALKERS,
}
INTERFACE = {
    "webs": {"lots_of": "web posts", "need_standing": "web standing"},
    "beats": {"beat_on": "web standing", "beat_back": "web standing", "run_of": "web standing beats"},
    "kinds": {"kinds_of": "web", "is_kind": "web posts word weights", "steps_of": "web posts weights standing"},
    "returning": {"comes_back": "web standing", "never_paper": "web standing", "shows_never": "web standing thing"},
    "shapes": {"shape_of": "web posts", "home_of": "web posts", "home_beats": "web"},
    "peaks": {"most_ever": "web standing post", "first_above": "web standing post number"},
    "far": {"standing_behind": "web standing beats"},
    "waves": {"wave_beats": "web posts", "last_owed": "web standing"},
    "between": {"beats_between": "web one other"},
    "debts": {
        "debts_of": "web standing", "single": "web beat post", "standing_of": "web debts", "together": "web one other",
    },
    "sights": {
        "shows_all": "web standing sights", "showing": "web sights", "first_shown": "web sights", "blame": "web sights",
    },
    "rings": {
        "row_web": "size", "cord_at": "size post beat", "cords_of": "size standing", "standing_by": "size cords",
        "turned_cords": "size cords",
    },
    "cases": {"cases_of": "web posts half"},
    "caselooks": {"shows_cases": "web posts half thing"},
    "changes": {
        "renamed": "web order", "beside": "one other", "without": "web pairs", "alone": "web posts",
        "renamed_standing": "web standing order", "beside_standing": "one standing other more",
        "alone_standing": "web standing posts",
    },
    "folds": {
        "folded": "web lots", "folded_standing": "web lots standing", "spread_standing": "web lots standing",
    },
    "cuts": {"fewest_cuts": "web", "cut_paper": "web", "shows_cuts": "web told thing"},
    "texts": {
        "show_web": "web", "show_standing": "standing", "show_debts": "debts", "show_cords": "cords",
        "read_web": "text", "read_standing": "web text", "read_debts": "web text", "read_cords": "size text",
    },
}
CLASSES = {
    "webs": {
        "Web": {
            "__init__": "size ties", "ties": "", "cords": "one other", "parts": "", "__len__": "", "__eq__": "other",
        },
    },
    "works": {
        "Works": {
            "__init__": "web", "put": "post number", "bind": "one other there back", "cut": "one other", "go": "beats",
            "undo": "", "web": "upto", "standing": "upto", "kinds": "upto", "comes_back": "upto", "deeds": "",
            "__len__": "",
        },
    },
    "desk": {"Desk": {"__init__": "", "say": "row"}},
}


def trees():
    """(path, tree) of each file."""
    return [(path, ast.parse(path.read_text(encoding="utf-8"))) for path in FILES]


def functions(tree):
    """All functions and methods of a file."""
    return [node for node in ast.walk(tree) if isinstance(node, ast.FunctionDef)]


def names_of(tree):
    """The functions, classes and names that a file binds itself."""
    found = set()
    for node in tree.body:
        if isinstance(node, (ast.FunctionDef, ast.ClassDef)):
            found.add(node.name)
        elif isinstance(node, ast.Assign):
            found |= {target.id for target in node.targets}
    return found


def parents_of(tree):
    """What each node of a file stands in straight."""
    return {child: node for node in ast.walk(tree) for child in ast.iter_child_nodes(node)}


def walked_name(node):
    """The name of a call whose answer is to be walked on the spot, None of anything else."""
    if isinstance(node, ast.Call):
        name = getattr(node.func, "id", None) or getattr(node.func, "attr", None)
        is_method = isinstance(node.func, ast.Attribute)
        return name if name in WALKED and is_method == (name in ("items", "keys", "values")) else None
    return None


def is_walked_at_once(node, parent, name):
    """Whether a node, the answer of what has this name, is walked there where it stands (L23, L2 Products)."""
    if isinstance(parent, (ast.For, ast.comprehension)):
        return parent.iter is node
    if isinstance(parent, ast.Compare):
        inside = [isinstance(sign, (ast.In, ast.NotIn)) for sign in parent.ops]
        return name in ("range", "keys") and inside == [True] and parent.comparators == [node]
    if not isinstance(parent, ast.Call) or not parent.args or parent.args[0] is not node:
        return False
    if isinstance(parent.func, ast.Attribute):
        return parent.func.attr == "join" and isinstance(parent.func.value, ast.Constant) and name != "combinations"
    taker = getattr(parent.func, "id", None)
    return taker in WALKED[name] and (taker not in ("min", "max") or len(parent.args) == 1)


def is_kept_range(node, parents, tree):
    """Whether a range is kept under a name that its function gives it alone, and only walked, asked or measured."""
    keeping = parents[node]
    if not isinstance(keeping, ast.Assign) or [type(target) for target in keeping.targets] != [ast.Name]:
        return False
    name = keeping.targets[0].id
    around = [function for function in functions(tree) if node in ast.walk(function)]
    found = [other for other in ast.walk(around[0]) if isinstance(other, ast.Name) and other.id == name]
    reads = [other for other in found if isinstance(other.ctx, ast.Load)]
    indexed = [other for other in reads if getattr(parents[other], "value", None) is other
               and isinstance(parents[other], ast.Subscript) and not isinstance(parents[other].slice, ast.Slice)]
    walked = [other for other in reads if is_walked_at_once(other, parents[other], "range")]
    return len(around) == 1 and len(found) == 1 + len(reads) and len(reads) == len(indexed) + len(walked)


def kept_or_passed_on(text):
    """The lines of a file's text with a range or the like that is not walked on the spot."""
    tree = ast.parse(text)
    parents = parents_of(tree)
    lines = []
    for node in ast.walk(tree):
        name = walked_name(node)
        if name is not None and not is_walked_at_once(node, parents[node], name):
            if name != "range" or not is_kept_range(node, parents, tree):
                lines.append(node.lineno)
    return lines


class TestForm(unittest.TestCase):

    def test_files(self):
        self.assertIn(PACKAGE / "__init__.py", FILES)
        for path in FILES:
            self.assertEqual((path.suffix, path.parent), (".py", PACKAGE))
            self.assertEqual(path.name, path.name.lower())

    def test_sizes_and_signs(self):
        for path, tree in trees():
            text = path.read_text(encoding="utf-8")
            lines = text.split("\n")
            self.assertLessEqual(len(lines), 399, path)
            self.assertTrue(all(len(line) <= 120 for line in lines), path)
            self.assertTrue(all(sign == "\n" or " " <= sign <= "~" for sign in text), path)
            for function in functions(tree):
                self.assertLessEqual(function.end_lineno - function.lineno, 39, (path, function.name))

    def test_what_stands_at_module_level(self):
        for path, tree in trees():
            for node in tree.body[1:]:
                self.assertIsInstance(node, (ast.ImportFrom, ast.FunctionDef, ast.ClassDef, ast.Assign), path)
            self.assertIsInstance(tree.body[0].value, ast.Constant, path)

    def test_imports(self):
        own = {f"giveback.{path.stem}": names_of(tree) for path, tree in trees()}
        leads = {}
        for path, tree in trees():
            nodes = [node for node in ast.walk(tree) if isinstance(node, ast.ImportFrom)]
            self.assertTrue(all(node in tree.body for node in nodes), path)
            for node in nodes:
                self.assertEqual(node.level, 0, path)
                allowed = own.get(node.module) or LIBRARY.get(node.module, set())
                for name in node.names:
                    self.assertIn(name.name, allowed, path)
                    self.assertIsNone(name.asname, path)
            leads[f"giveback.{path.stem}"] = [node.module for node in nodes if node.module in own]
        while leads:
            free = [name for name, ahead in leads.items() if not any(other in leads for other in ahead)]
            self.assertTrue(free, leads)
            leads = {name: ahead for name, ahead in leads.items() if name not in free}

    def test_imports_are_used(self):
        for path, tree in trees():
            bound = {name.name for node in tree.body if isinstance(node, ast.ImportFrom) for name in node.names}
            used = {node.id for node in ast.walk(tree) if isinstance(node, ast.Name)}
            self.assertEqual(bound - used, set(), path)

    def test_words_of_the_language(self):
        for path, tree in trees():
            for node in ast.walk(tree):
                self.assertNotIsInstance(node, BARRED, (path, getattr(node, "lineno", None)))
                if isinstance(node, ast.Constant):
                    self.assertNotIsInstance(node.value, (float, complex, bytes), path)
                if isinstance(node, (ast.FunctionDef, ast.ClassDef)):
                    self.assertEqual(node.decorator_list, [], path)

    def test_calls(self):
        methods = {method.name for _, tree in trees() for method in functions(tree)}
        for path, tree in trees():
            imports = [node for node in tree.body if isinstance(node, ast.ImportFrom)]
            bound = names_of(tree) | {name.name for node in imports for name in node.names}
            for node in ast.walk(tree):
                if isinstance(node, ast.Call) and isinstance(node.func, ast.Name):
                    self.assertTrue(node.func.id in bound or node.func.id in BUILTINS, (path, node.lineno))
                elif isinstance(node, ast.Call):
                    self.assertIn(node.func.attr, METHODS | methods, (path, node.lineno))

    def test_ranges_and_the_like_are_walked_on_the_spot(self):
        for path, _ in trees():
            self.assertEqual(kept_or_passed_on(path.read_text(encoding="utf-8")), [], path)

    def test_the_look_at_ranges_and_the_like(self):
        barred = (
            "rows_of(range(3))", "list(zip(xs, range(3)))", "xs + range(3)", "xs == range(3)", "set(xs.values())",
            "rows_of(xs, zip(xs, xs))", "len(zip(xs, xs))", "list(reversed(zip(xs)))", "max(0, range(3))",
            "[xs.items()]", "rows_of(combinations(xs, 2))", "list(zip(combinations(xs, 2)))", "range(3)",
            "xs.join(xs.values())",
        )
        allowed = (
            "list(range(3))", "[x for x in range(3)]", "rows_of(list(range(3)))", "rows_of(xs)",
            "list(zip(range(3), xs))", "3 in range(3)", "len(range(3))", "list(reversed(range(3)))",
            "max(range(3), default=0)", "len(xs.items())", "list(combinations(xs, 2))", "dict(zip(xs, xs))",
            "sum(xs.values())", "''.join(xs.values())",
        )
        for rows, wanted in ((barred, [2]), (allowed, [])):
            for row in rows:
                self.assertEqual(kept_or_passed_on(f"def told(xs):\n    return {row}"), wanted, row)

    def test_the_look_at_kept_ranges(self):
        barred = ("rows_of(kept)", "kept", "kept == xs", "kept[1:]", "xs[kept]")
        allowed = ("[x for x in kept]", "len(kept)", "kept[1]", "3 in kept", "rows_of(list(kept))")
        for rows, wanted in ((barred, [2]), (allowed, [])):
            for row in rows:
                text = f"def told(xs):\n    kept = range(3)\n    return {row}"
                self.assertEqual(kept_or_passed_on(text), wanted, row)
        barred = (
            "kept = zip(xs, xs)", "kept = other = range(3)", "xs[0] = range(3)", "kept = range(3)\n    kept = xs",
        )
        for row in barred:
            self.assertEqual(kept_or_passed_on(f"def told(xs):\n    {row}\n    return len(kept)"), [2], row)

    def test_names_are_nobody_elses(self):
        for path, tree in trees():
            taken = set(dir(builtins))
            for node in tree.body:
                if isinstance(node, ast.ImportFrom):
                    taken |= {name.name for name in node.names}
                elif isinstance(node, ast.ClassDef):
                    taken.add(node.name)
            for node in ast.walk(tree):
                if isinstance(node, ast.Name) and isinstance(node.ctx, ast.Store):
                    self.assertNotIn(node.id, taken, (path, node.lineno))
                elif isinstance(node, ast.arg):
                    self.assertNotIn(node.arg, taken, (path, node.lineno))


class TestInterface(unittest.TestCase):

    def test_functions(self):
        for file, told in INTERFACE.items():
            module = importlib.import_module(f"giveback.{file}")
            for name, arguments in told.items():
                function = getattr(module, name)
                self.assertEqual(function.__module__, module.__name__)
                self.assertEqual(list(inspect.signature(function).parameters), arguments.split())

    def test_classes(self):
        for file, classes in CLASSES.items():
            module = importlib.import_module(f"giveback.{file}")
            for name, methods in classes.items():
                self.assertEqual(getattr(module, name).__module__, module.__name__)
                for method, arguments in methods.items():
                    function = vars(getattr(module, name))[method]
                    told = inspect.signature(function).parameters
                    self.assertEqual(list(told), ["self"] + arguments.split())
                    for argument in told.values():
                        alone = argument.name == "upto"
                        self.assertEqual(argument.kind == inspect.Parameter.KEYWORD_ONLY, alone)
                        self.assertEqual(argument.default is None, alone)


if __name__ == "__main__":
    unittest.main()
