"""Tests of the form of the package: the interface, and those rules of the language that can be read off the code."""

import ast
import builtins
import importlib
import inspect
import pathlib
import re
import unittest

PACKAGE = pathlib.Path(__file__).resolve().parent.parent / "countededges"
FILES = sorted(PACKAGE.glob("*.py"))

# The functions and methods of the document's interface, by file, with their parameters.
INTERFACE = {
    "programs": {
        "is_word": ["value"], "is_run": ["program", "value"], "stop_of": ["program", "run"],
        "runs_to": ["program", "most"], "Program.__init__": ["self", "ways", "begin", "exits"],
        "Program.ways": ["self"], "Program.places": ["self"], "Program.exits": ["self"],
        "Program.leaving": ["self", "place"], "Program.entering": ["self", "place"],
        "Program.find_ring": ["self"], "Program.row": ["*ways"],
    },
    "counters": {
        "all_counters": ["program"], "is_counter": ["program", "value"],
        "Counters.__init__": ["self", "program", "*counters"], "Counters.listed": ["self"],
        "Counters.of_ways": ["program", "*ways"], "Counters.everything": ["program"],
    },
    "lots": {
        "Lot.of": ["program", "*runs"], "Lot.counted": ["program", "counts"], "Lot.counts": ["self"],
        "Lot.built": ["self"], "values_of": ["counters", "lot"],
    },
    "telling": {
        "sum_for": ["counters", "target"], "tells": ["counters", "target"], "untold": ["counters"],
        "flow_for": ["counters", "target"], "lots_for": ["counters", "target"], "Sum.shares": ["self"],
        "Sum.levels": ["self"], "Sum.__call__": ["self", "values"],
    },
    "ones": {"twins": ["counters"], "twins_for": ["counters", "target"]},
    "logs": {"log_of": ["counters", "run"], "log_twins": ["counters"]},
    "cheapest": {
        "cost_of": ["counters", "costs"], "cheapest": ["program", "costs"], "wished": ["program", "costs", "*targets"],
    },
    "numbers": {
        "Numbering.__init__": ["self", "program"], "Numbering.__call__": ["self", "run"],
        "Numbering.run": ["self", "number"], "Numbering.all_runs": ["self"], "Numbering.moved": ["self", "levels"],
        "Numbering.freed": ["self", "*ways"], "Numbering.quiet": ["self", "costs"], "Numbering.free": ["self"],
    },
    "values": {"judged": ["counters", "values"]},
    "checker": {
        "fits": ["paper", "counters"], "is_flow": ["program", "value"], "told_paper": ["counters", "target"],
        "log_paper": ["counters"], "cheapest_paper": ["program", "costs"],
    },
    "changes": {
        "changed_by": ["counters", "changes"], "least_changes": ["counters", "changes", "*targets"],
    },
    "notes": {
        "write_note": ["thing"], "read_program": ["note"], "read_counters": ["program", "note"],
        "write_counter": ["counter"], "read_counter": ["word"],
    },
    "sessions": {
        "Session.__init__": ["self"], "Session.program_of": ["self", "name"], "Session.counters_of": ["self", "name"],
        "Session.names": ["self"], "Session.add": ["self", "name", "counter"],
        "Session.take": ["self", "name", "counter"], "Session.drop": ["self", "name"], "Session.undo": ["self"],
        "Session.attempt": ["self", "deeds"], "Session.text": ["self"], "Session.read": ["text"],
    },
    "console": {"answer": ["session", "line"], "talk": ["session", "lines"]},
}

METHODS_BY_SIGN = {
    "Program": ["__getitem__", "__contains__", "__len__", "__eq__", "begin"],
    "Counters": ["__len__", "__contains__", "__add__", "__sub__", "__eq__", "program"],
    "Lot": ["__getitem__", "__contains__", "__eq__", "__add__", "__iadd__", "__mul__", "__rmul__", "__imul__", "program",
            "runs"],
    "Sum": ["__call__", "target", "divisor"],
    "Numbering": ["__getitem__", "__call__", "__eq__", "program", "many"],
    "Session": ["__setitem__", "__getitem__", "__contains__", "__len__", "__enter__", "__exit__"],
}

GOOD_BUILTINS = """len range enumerate zip min max sum abs sorted reversed int str bool bytes list tuple dict set frozenset
isinstance ord repr any all divmod iter next property staticmethod classmethod super Exception ValueError TypeError
KeyError IndexError LookupError ZeroDivisionError ArithmeticError OverflowError RuntimeError NotImplementedError
AttributeError StopIteration NotImplemented True False None""".split()

GOOD_METHODS = """init eq repr str len enter exit call iter lt le gt ge ne add sub mul floordiv mod pow and or xor lshift
rshift radd rsub rmul rfloordiv rmod rand ror rxor rlshift rrshift iadd isub imul ifloordiv imod ipow iand ior ixor
ilshift irshift neg pos invert abs bool contains getitem setitem""".split()

# No `sort`: classes of the package have `__eq__` and `__len__`.
GOOD_CALLS = """append clear copy count endswith extend find get index insert isalnum isalpha isdigit islower isspace isupper
items join keys ljust lower lstrip partition pop remove replace reverse rfind rjust rpartition rsplit rstrip setdefault
split splitlines startswith strip update upper values zfill bit_length""".split()

BAD_WORDS = """type typing typing_extensions enum Enum IntEnum StrEnum Flag IntFlag Generic Protocol ABC ABCMeta namedtuple
NamedTuple TypedDict TYPE_CHECKING abstractmethod""".split()

BAD_PARTS = ["dataclass", "overload", "contextmanager"]

BAD_NODES = (ast.Global, ast.AsyncFunctionDef, ast.AsyncFor, ast.AsyncWith, ast.Await, ast.Import, ast.Div)


def trees():
    """Each file of the package with its tree."""
    return [(path.name, ast.parse(path.read_text(encoding="ascii"))) for path in FILES]


def nodes(*kinds):
    """Each node of some kinds in the package, with the name of its file."""
    return [(name, node) for name, tree in trees() for node in ast.walk(tree) if isinstance(node, kinds)]


def bound_names():
    """Each name that the package gives to a function, class, parameter or variable."""
    found = [(name, node.name) for name, node in nodes(ast.FunctionDef, ast.ClassDef)]
    found += [(name, node.arg) for name, node in nodes(ast.arg)]
    return found + [(name, node.id) for name, node in nodes(ast.Name) if isinstance(node.ctx, ast.Store)]


def parameters(function):
    """The names of the parameters of a function, with a star where one stands."""
    told = inspect.signature(function).parameters.values()
    return [("*" if one.kind == one.VAR_POSITIONAL else "") + one.name for one in told]


class InterfaceTests(unittest.TestCase):

    def test_functions_and_methods_stand_in_their_files(self):
        for file, functions in INTERFACE.items():
            module = importlib.import_module(f"countededges.{file}")
            for name, expected in functions.items():
                owner = module
                *around, last = name.split(".")
                for part in around:
                    owner = vars(owner)[part]
                    self.assertEqual(owner.__module__, module.__name__)
                self.assertIn(last, vars(owner), name)
                self.assertEqual(parameters(inspect.getattr_static(owner, last)), expected, name)
                self.assertEqual(getattr(owner, last).__module__, module.__name__)

    def test_what_is_used_by_signs_stands_in_the_class_itself(self):
        for file in INTERFACE:
            module = importlib.import_module(f"countededges.{file}")
            for name in METHODS_BY_SIGN:
                if name in vars(module):
                    for method in METHODS_BY_SIGN[name]:
                        self.assertIn(method, vars(vars(module)[name]))


class LanguageTests(unittest.TestCase):

    def test_the_folder_holds_only_python_files(self):
        held = [path.name for path in PACKAGE.iterdir() if path.name != "__pycache__"]
        self.assertEqual(sorted(held), [path.name for path in FILES])
        for name in held:
            self.assertRegex(name, r"^([a-z][a-z0-9_]*|__init__|__main__)\.py$")

    def test_lines_and_characters(self):
        for path in FILES:
            text = path.read_text(encoding="utf-8")
            self.assertRegex(text, r"\A[ -~\n]*\Z")
            self.assertLessEqual(len(text.splitlines()), 399, path.name)
            self.assertLessEqual(max(len(line) for line in text.splitlines()), 120, path.name)

    def test_functions_are_short(self):
        for name, node in nodes(ast.FunctionDef):
            self.assertLessEqual(node.end_lineno - node.lineno + 1, 40, (name, node.name))

    def test_words_that_do_not_occur(self):
        for path in FILES:
            text = path.read_text(encoding="utf-8")
            self.assertEqual([word for word in re.findall(r"\w+", text) if word in BAD_WORDS], [], path.name)
            self.assertEqual([part for part in BAD_PARTS if part in text], [], path.name)

    def test_statements_and_signs_that_do_not_occur(self):
        self.assertEqual([(name, node.lineno) for name, node in nodes(*BAD_NODES) if hasattr(node, "lineno")], [])
        self.assertEqual([name for name, node in nodes(ast.Div)], [])
        for name, node in nodes(ast.Constant):
            self.assertNotIsInstance(node.value, (float, complex))
            self.assertNotIn("%", str(node.value))
        for name, node in nodes(ast.arguments):
            self.assertEqual(node.posonlyargs, [])

    def test_imports_are_full_names_of_the_package(self):
        for name, node in nodes(ast.ImportFrom):
            self.assertEqual(node.level, 0)
            self.assertTrue(node.module.startswith("countededges."), (name, node.module))
            home = ast.parse((PACKAGE / f"{node.module.split('.')[1]}.py").read_text(encoding="utf-8"))
            defined = [one.name for one in home.body if isinstance(one, (ast.FunctionDef, ast.ClassDef))]
            defined += [one.targets[0].id for one in home.body if isinstance(one, ast.Assign)]
            for one in node.names:
                self.assertIn(one.name, defined)

    def test_names_are_plain_and_no_builtins(self):
        for name, bound in bound_names():
            if bound.strip("_") in GOOD_METHODS and bound.startswith("__"):
                continue
            self.assertRegex(bound, r"^[A-Za-z][A-Za-z0-9_]*$", name)
            self.assertFalse(hasattr(builtins, bound), (name, bound))

    def test_only_listed_builtins_are_read(self):
        for name, node in nodes(ast.Name):
            if hasattr(builtins, node.id):
                self.assertIn(node.id, GOOD_BUILTINS, name)

    def test_decorators(self):
        told = [(name, ast.unparse(one)) for name, node in nodes(ast.FunctionDef, ast.ClassDef)
                for one in node.decorator_list]
        for name, text in told:
            self.assertRegex(text, r"^(property|staticmethod|classmethod|[a-z_]+\.setter)$", name)

    def test_no_name_is_a_method_and_an_attribute(self):
        classes = [node for name, node in nodes(ast.ClassDef)]
        methods = {one.name for node in classes for one in node.body if isinstance(one, ast.FunctionDef)}
        assigned = {node.attr for name, node in nodes(ast.Attribute) if isinstance(node.ctx, ast.Store)}
        self.assertEqual(methods & assigned, set())
        builtin_names = {one for kind in (str, int, list, dict, set, bytes) for one in dir(kind)}
        self.assertEqual(assigned & builtin_names, set())

    def test_sums_and_the_like_take_lists(self):
        for name, node in nodes(ast.Call):
            if isinstance(node.func, ast.Name) and node.func.id in ("any", "all", "sum", "min", "max", "sorted"):
                self.assertFalse([one for one in node.args if isinstance(one, ast.GeneratorExp)], (name, node.lineno))

    def test_calls_with_stars_take_names(self):
        for name, node in nodes(ast.Call):
            for one in node.args:
                if isinstance(one, ast.Starred):
                    self.assertIsInstance(one.value, (ast.Name, ast.Attribute), (name, node.lineno))

    def test_tables_at_module_level_are_only_read(self):
        readers = ("list", "dict", "len", "sorted", "tuple", "enumerate")
        for name, tree in trees():
            tables = [node.targets[0].id for node in tree.body if isinstance(node, ast.Assign)
                      and isinstance(node.value, (ast.Dict, ast.List))]
            for node in ast.walk(tree):
                passed = [*node.args, *node.keywords] if isinstance(node, ast.Call) else []
                if passed and isinstance(node.func, ast.Name) and node.func.id in readers:
                    continue
                for one in passed:
                    self.assertNotIn(getattr(one, "id", ""), tables, (name, node.lineno))

    def test_no_local_name_is_that_of_an_import_or_a_class(self):
        for name, tree in trees():
            taken = {one.name for node in ast.walk(tree) if isinstance(node, ast.ImportFrom) for one in node.names}
            taken |= {node.name for node in ast.walk(tree) if isinstance(node, ast.ClassDef)}
            bound = {node.arg for node in ast.walk(tree) if isinstance(node, ast.arg)}
            bound |= {node.id for node in ast.walk(tree) if isinstance(node, ast.Name) and isinstance(node.ctx, ast.Store)}
            self.assertEqual(taken & bound, set(), name)

    def test_only_listed_methods_of_builtin_values_are_called(self):
        own = {node.name for name, node in nodes(ast.FunctionDef)}
        own |= {node.attr for name, node in nodes(ast.Attribute) if isinstance(node.ctx, ast.Store)}
        for name, node in nodes(ast.Call):
            if isinstance(node.func, ast.Attribute):
                self.assertIn(node.func.attr, [*own, *GOOD_CALLS], (name, node.lineno))

    def test_no_own_name_is_that_of_a_generator(self):
        yielding = [node.name for name, node in nodes(ast.FunctionDef)
                    if any(isinstance(one, (ast.Yield, ast.YieldFrom)) for one in ast.walk(node))]
        names = [node.name for name, node in nodes(ast.FunctionDef)]
        for one in yielding:
            self.assertEqual(names.count(one), 1)
            self.assertNotIn(one, GOOD_CALLS)

    def test_every_import_is_used(self):
        for name, tree in trees():
            read = {node.id for node in ast.walk(tree) if isinstance(node, ast.Name)}
            for node in ast.walk(tree):
                for one in node.names if isinstance(node, ast.ImportFrom) else []:
                    self.assertIn(one.name, read, name)

    def test_what_stands_at_module_level(self):
        for name, tree in trees():
            for node in tree.body:
                is_docstring = isinstance(node, ast.Expr) and isinstance(node.value, ast.Constant)
                good = (ast.ImportFrom, ast.FunctionDef, ast.ClassDef, ast.Assign)
                self.assertTrue(is_docstring or isinstance(node, good), (name, node.lineno))


if __name__ == "__main__":
    unittest.main()
