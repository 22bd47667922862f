"""The rules of LANGUAGE.md that can be seen in the code one file or one line at a time, and the interface's homes."""

import ast
import builtins
import importlib
import inspect
import re
import unittest
from pathlib import Path

PACKAGE = Path(__file__).parent.parent / "seenshares"
FILES = sorted(PACKAGE.rglob("*.py"))
TREES = {path: ast.parse(path.read_text()) for path in FILES}

# What the interface lists: for each module its functions, and its classes with their methods and operators.
HOMES = {
    "shares": {"Share": ["__init__", "__add__", "__radd__", "__sub__", "__rsub__", "__mul__", "__rmul__",
                         "__floordiv__", "__rfloordiv__", "__eq__", "__ne__", "__lt__", "__le__", "__gt__",
                         "__ge__", "__neg__", "__abs__", "__str__", "over", "floor"]},
    "programs": {"Place": ["__init__", "__eq__"],
                 "Program": ["__init__", "__getitem__", "__contains__", "__len__", "__eq__", "with_let"]},
    "samplers": {"Sampler": ["__init__", "__eq__", "with_values"]},
    "runs": {"observe": [], "Record": ["__init__"], "times_of": [], "seen_of": []},
    "states": {"first_states": [], "steps": [], "reached": [], "reach": []},
    "knots": {"knots": [], "knot_of": []},
    "polygons": {"polygon": [], "corners": [], "inside": [], "sides": []},
    "rings": {"ring": [], "ring_fault": [], "lead": [], "as_run": []},
    "papers": {"paper": [], "paper_fault": []},
    "bounds": {"hidden": [], "over": [], "under": [], "seen_range": [], "true_range": [], "surest": []},
    "finite": {"excess": [], "worst": [], "certificate": [], "certificate_fault": []},
    "told": {"can_be": [], "true_times": [], "sure_places": [], "witness": []},
    "settings": {"measure": [], "jitters_within": [], "periods_within": [], "lets": []},
    "counts": {"Counts": ["__init__", "__getitem__", "__setitem__", "__iadd__", "__add__", "__sub__", "__mul__",
                          "__rmul__", "__le__", "__eq__", "__contains__", "__len__", "present", "total", "share"],
               "counts_of": []},
    "live": {"Profile": ["__init__", "__call__", "__enter__", "__exit__", "choices", "path", "record", "run", "watch",
                         "trial"]},
    "texts": {"write": [], "read": [], "write_run": [], "read_run": []},
}

LIBRARY = {
    "heapq": "heappush heappop heapify heapreplace heappushpop", "math": "gcd lcm isqrt comb perm factorial",
    "itertools": "product combinations permutations chain accumulate pairwise islice zip_longest",
    "collections": "defaultdict",
}
BUILTINS = """len range enumerate zip min max sum abs sorted reversed int str bool bytes list tuple dict set isinstance
    ord repr any all divmod pow getattr hasattr setattr iter next map super property staticmethod classmethod
    Exception ValueError TypeError KeyError IndexError LookupError ZeroDivisionError ArithmeticError OverflowError
    RuntimeError NotImplementedError AttributeError StopIteration NotImplemented object""".split()
# The name _ is bound there while an interactive example runs.
HELD_NAMES = [name for name in dir(builtins) if name != "_"]
METHODS = """append clear copy count endswith extend find get index insert isalnum isalpha isdigit islower isspace
    isupper items join keys ljust lower lstrip partition pop remove replace reverse rfind rjust rpartition rsplit
    rstrip setdefault split splitlines startswith strip update upper values zfill bit_length title capitalize swapcase
    casefold center expandtabs removeprefix removesuffix rindex isascii isdecimal isnumeric istitle isidentifier
    isprintable translate sort add discard format encode decode hex""".split()
BARRED_NODES = (ast.Global, ast.AsyncFunctionDef, ast.AsyncFor, ast.AsyncWith, ast.Await, ast.Div, ast.MatMult)
BARRED_NAMES = """register mro elements open input law version_info with_traceback add_note attrgetter breakpoint
    builtins compile copyright credits delattr dir eval exec exit gc globals help id importlib license locals
    methodcaller os quit type vars sys""".split()
BARRED_WORDS = """typing typing_extensions enum Enum IntEnum StrEnum Flag IntFlag Generic Protocol ABC ABCMeta
    namedtuple NamedTuple TypedDict TYPE_CHECKING abstractmethod _wall _WallAttr""".split()
BARRED_PARTS = ["dataclass", "overload", "contextmanager", "(type)", "Meta", "metaclass="]
COMPARING = ["__eq__", "__ne__", "__lt__", "__le__", "__gt__", "__ge__"]
ONE_OTHER = COMPARING + ["__" + start + word + "__" for start in ("", "r", "i")
                         for word in "add sub mul floordiv mod and or xor lshift rshift".split()]
PARAMETERS = {
    **{name: ["self", "other"] for name in ONE_OTHER}, "__contains__": ["self", "x"], "__getitem__": ["self", "at"],
    "__setitem__": ["self", "at", "worth"],
    **{"__" + word + "__": ["self"] for word in "neg pos invert abs bool len iter str repr".split()},
    "__init__": None, "__enter__": ["self"], "__exit__": None, "__call__": None,
}


def nodes(*kinds):
    """The nodes of these kinds in all files, each with a place for messages."""
    for path, tree in TREES.items():
        for node in ast.walk(tree):
            if isinstance(node, kinds):
                yield node, f"{path.name}:{getattr(node, 'lineno', 0)}"


def bound_names():
    """Every name that a file binds, and where."""
    for node, where in nodes(ast.FunctionDef, ast.ClassDef):
        yield node.name, where
    for node, where in nodes(ast.arg):
        yield node.arg, where
    for node, where in nodes(ast.Name):
        if not isinstance(node.ctx, ast.Load):
            yield node.id, where


class LanguageTest(unittest.TestCase):

    def test_files(self):
        for path in PACKAGE.rglob("*"):
            if "__pycache__" not in path.parts:
                self.assertTrue(path.is_dir() or path.suffix == ".py", path)
                self.assertTrue(path.stem.replace("_", "a").isalnum() and path.stem == path.stem.lower(), path)

    def test_sizes_and_characters(self):
        for path in FILES:
            lines = path.read_text().split("\n")
            self.assertLessEqual(len(lines) - 1, 399, path)
            for at, line in enumerate(lines):
                self.assertLessEqual(len(line), 120, (path, at + 1))
                self.assertTrue(all(" " <= letter <= "~" for letter in line), (path, at + 1))
        for node, where in nodes(ast.FunctionDef):
            self.assertLessEqual(node.end_lineno - node.lineno + 1, 40, where)

    def test_words_that_are_not_used(self):
        for path in FILES:
            text = path.read_text()
            self.assertEqual([word for word in re.findall(r"\w+", text) if word in BARRED_WORDS], [], path)
            self.assertEqual([part for part in BARRED_PARTS if part in text], [], path)
        for name, where in bound_names():
            self.assertNotIn(name, BARRED_NAMES, where)

    def test_imports(self):
        for node, where in nodes(ast.Import, ast.ImportFrom):
            self.assertIsInstance(node, ast.ImportFrom, where)
            self.assertEqual(node.level, 0, where)
            names = [alias.name for alias in node.names]
            if node.module in LIBRARY:
                self.assertTrue(set(names) <= set(LIBRARY[node.module].split()), where)
            else:
                self.assertTrue(node.module.startswith("seenshares."), where)
                home = PACKAGE.parent / (node.module.replace(".", "/") + ".py")
                held = [child.name for child in TREES[home].body if isinstance(child, (ast.FunctionDef, ast.ClassDef))]
                held += [child.targets[0].id for child in TREES[home].body if isinstance(child, ast.Assign)]
                self.assertTrue(set(names) <= set(held), where)

    def test_no_two_files_import_from_each_other(self):
        wanted = {f"seenshares.{path.stem}": {node.module for node in tree.body if isinstance(node, ast.ImportFrom)}
                  for path, tree in TREES.items()}
        while wanted:
            free = [name for name, needs in wanted.items() if not any(need in wanted for need in needs)]
            self.assertTrue(free, wanted)
            for name in free:
                del wanted[name]

    def test_module_level(self):
        for path, tree in TREES.items():
            for node in tree.body:
                docstring = isinstance(node, ast.Expr) and isinstance(node.value, ast.Constant)
                allowed = (ast.ImportFrom, ast.FunctionDef, ast.ClassDef, ast.Assign)
                self.assertTrue(docstring or isinstance(node, allowed), f"{path.name}:{node.lineno}")

    def test_statements_and_values(self):
        for node, where in nodes(ast.AST):
            self.assertNotIsInstance(node, BARRED_NODES, where)
        for node, where in nodes(ast.Constant):
            self.assertNotIsInstance(node.value, (float, complex), where)
            if isinstance(node.value, str):
                self.assertNotIn("%", node.value, where)
                self.assertFalse(node.value.startswith("__") and node.value.endswith("__"), where)

    def test_builtins(self):
        for node, where in nodes(ast.Name):
            if node.id in HELD_NAMES:
                self.assertIn(node.id, BUILTINS, where)
                self.assertIsInstance(node.ctx, ast.Load, where)
        for name, where in bound_names():
            if not name.startswith("__"):
                self.assertNotIn(name, HELD_NAMES, where)

    def test_what_is_sorted_and_compared_while_classes_have_an_order(self):
        for node, where in nodes(ast.Call):
            name = node.func.id if isinstance(node.func, ast.Name) else getattr(node.func, "attr", None)
            if name == "sorted":
                self.assertIsInstance(node.args[0], ast.Call, where)
                self.assertEqual(node.args[0].func.id, "set", where)
            if name in ("min", "max"):
                self.assertTrue(len(node.args) == 2 and any(isinstance(arg, ast.Constant) for arg in node.args), where)
            if name in ("any", "all", "sum", "sorted", "min", "max"):
                self.assertNotIsInstance(node.args[0], ast.GeneratorExp, where)
            self.assertNotIn(name, ["sort", "reversed"], where)

    def test_where_sets_stand(self):
        held = [(node.args[0], node.func.id) for node, _ in nodes(ast.Call)
                if isinstance(node.func, ast.Name) and node.func.id in ("sorted", "len")]
        for node, where in nodes(ast.Call, ast.SetComp, ast.Set):
            if not isinstance(node, ast.Call) or isinstance(node.func, ast.Name) and node.func.id == "set":
                self.assertTrue(any(node is other for other, _ in held), where)

    def test_names_are_not_those_of_classes_and_imports_of_their_file(self):
        for path, tree in TREES.items():
            held = [alias.name for node in tree.body if isinstance(node, ast.ImportFrom) for alias in node.names]
            held += [node.name for node in tree.body if isinstance(node, ast.ClassDef)]
            for node in ast.walk(tree):
                if isinstance(node, ast.Name) and not isinstance(node.ctx, ast.Load):
                    self.assertNotIn(node.id, held, f"{path.name}:{node.lineno}")
                if isinstance(node, ast.arg):
                    self.assertNotIn(node.arg, held, f"{path.name}:{node.lineno}")

    def test_generators_are_iterated_at_once(self):
        names = {node.name for node, _ in nodes(ast.FunctionDef) if any(isinstance(part, (ast.Yield, ast.YieldFrom))
                                                                       for part in ast.walk(node))}
        own = [node.name for node, _ in nodes(ast.FunctionDef)]
        allowed = []
        for node, _ in nodes(ast.For, ast.comprehension, ast.Call):
            allowed += node.args[:1] if isinstance(node, ast.Call) else [node.iter]
        for name in names:
            self.assertEqual(own.count(name), 1)
        for node, where in nodes(ast.Call):
            if isinstance(node.func, ast.Name) and node.func.id in names:
                self.assertTrue(any(node is other for other in allowed), where)

    def test_nothing_is_assigned_in_place_while_a_class_adds_in_place(self):
        for node, where in nodes(ast.AugAssign):
            self.fail(where)

    def test_what_stands_behind_a_star(self):
        for node, where in nodes(ast.Call):
            for arg in node.args:
                if isinstance(arg, ast.Starred):
                    self.assertIsInstance(arg.value, (ast.Name, ast.Attribute), where)

    def test_the_rows_of_exit(self):
        for node, where in nodes(ast.FunctionDef):
            if node.name == "__exit__":
                for row in node.body:
                    self.assertIsInstance(row, ast.Assign, where)
                    self.assertIsInstance(row.value, ast.Attribute, where)
                self.assertIn([arg.arg for arg in node.args.args], [["self", "kind", "value", "trace"], ["self"]])

    def test_no_name_is_a_method_and_an_attribute(self):
        for node, where in nodes(ast.ClassDef):
            methods = [part.name for part in node.body if isinstance(part, ast.FunctionDef)]
            stored = [part.attr for part in ast.walk(node) if isinstance(part, ast.Attribute)
                      and isinstance(part.ctx, ast.Store)]
            self.assertEqual([name for name in stored if name in methods], [], where)

    def test_methods_that_are_called(self):
        own = {node.name for node, _ in nodes(ast.FunctionDef)}
        for node, where in nodes(ast.Call):
            if isinstance(node.func, ast.Attribute):
                self.assertIn(node.func.attr, [*METHODS, *own], where)

    def test_operators_and_their_parameters(self):
        for node, where in nodes(ast.FunctionDef):
            if node.name.startswith("__"):
                self.assertIn(node.name, PARAMETERS, where)
                if PARAMETERS[node.name] is not None:
                    self.assertEqual([arg.arg for arg in node.args.args], PARAMETERS[node.name], where)

    def test_errors_that_are_raised_and_caught(self):
        for node, where in nodes(ast.Raise):
            self.assertTrue(node.exc is None or isinstance(node.exc, ast.Call), where)
        for node, where in nodes(ast.ExceptHandler):
            self.assertIsNotNone(node.type, where)


class HomesTest(unittest.TestCase):

    def test_each_name_is_defined_in_its_own_file(self):
        for module, names in HOMES.items():
            held = importlib.import_module(f"seenshares.{module}")
            for name, methods in names.items():
                thing = getattr(held, name)
                self.assertEqual(thing.__module__, f"seenshares.{module}")
                for method in methods:
                    self.assertTrue(inspect.isfunction(vars(thing)[method]), (name, method))


if __name__ == "__main__":
    unittest.main()
