"""The interface as DOC.md lists it, and the rules of LANGUAGE.md that can be seen in the files of the package.

A rule that cannot be seen by such simple means is not looked at here: LANGUAGE.md says more.
"""

import ast
import builtins
import os
import re
import unittest

PACKAGE = os.path.join(os.path.dirname(os.path.dirname(os.path.abspath(__file__))), "behindexits")
INTERFACE = {
    "differences": {"solved": ["literals"], "is_ring": ["literals", "indices"]},
    "states": {"States": {
        "__init__": ["names", "rows"], "rows": [], "is_empty": [], "some": [], "holds": ["literal"], "bound": ["left", "right"],
        "without": ["name"], "renamed": ["old", "new"], "over": ["more"], "__contains__": ["state"], "__eq__": ["other"],
        "__le__": ["other"], "__and__": ["other"], "__or__": ["other"], "__sub__": ["other"],
    }},
    "programs": {"Program": {
        "__init__": ["inputs", "block"], "places": [], "__getitem__": ["place"], "__contains__": ["place"], "__eq__": ["other"],
    }},
    "runs": {"run": ["program", "inputs", "answers", "*", "steps"], "tried": ["running", "answers"], "Running": {
        "__init__": ["program", "inputs"], "asks": [], "where": [], "result": [], "__call__": ["answer"], "__enter__": [],
        "__exit__": ["kind", "value", "trace"],
    }},
    "ways": {"ways": ["program"], "known": ["program", "way"], "known_at": ["program", "place"]},
    "behind": {"behind": ["program", "way"], "can_end": ["program", "way"], "coming": ["program", "place"]},
    "facts": {
        "holds": ["program", "way", "literal"], "tightest": ["program", "way"], "is_whole": ["program", "way"],
        "passes": ["program", "place", "values"],
    },
    "paths": {
        "paths": ["program", "way"], "way_of": ["program", "path"], "along": ["program", "path"], "facts_of": ["program", "path"],
    },
    "broken": {"run_fault": ["program", "path", "values"], "breaking": ["program", "way", "literal"]},
    "trees": {"closes": ["program", "path", "extra", "tree"]},
    "papers": {"paper": ["program", "way", "literal"], "paper_fault": ["program", "way", "literal", "paper"]},
    "meetings": {
        "joined": ["program", "ways"], "within": ["program", "way", "other"], "alike": ["one", "other"],
        "may_join": ["program", "ways", "literals"],
    },
    "mends": {
        "put_in": ["program", "place", "statement"], "harmless": ["program", "way", "wish", "place", "literal"],
        "asked": ["program", "way", "wish", "choices"],
    },
    "places": {"holds_at": ["program", "place", "literal"], "needless": ["program"], "dropped": ["program", "places"]},
    "texts": {"shown": ["program"], "read": ["text"]},
}
BUILTINS = set(
    "len range enumerate zip min max sum abs sorted reversed int str bool bytes list tuple dict set frozenset isinstance ord "
    "repr any all divmod iter next property staticmethod classmethod super Exception ValueError TypeError KeyError IndexError "
    "LookupError ZeroDivisionError ArithmeticError OverflowError RuntimeError NotImplementedError AttributeError "
    "StopIteration NotImplemented".split()
)
METHODS = set(
    "append clear copy count endswith extend find get index insert isalnum isalpha isdigit islower isspace isupper items join "
    "keys ljust lower lstrip partition pop remove replace reverse rfind rjust rpartition rsplit rstrip setdefault split "
    "splitlines startswith strip update upper values zfill bit_length isascii".split()
)
DUNDERS = set(
    "__init__ __eq__ __repr__ __str__ __len__ __enter__ __exit__ __call__ __iter__ __lt__ __le__ __gt__ __ge__ __ne__ __add__ "
    "__sub__ __mul__ __and__ __or__ __xor__ __neg__ __invert__ __bool__ __contains__ __getitem__ __setitem__".split()
)
BARRED = set(
    "typing typing_extensions enum Enum IntEnum StrEnum Flag IntFlag Generic Protocol ABC ABCMeta namedtuple NamedTuple "
    "TypedDict TYPE_CHECKING abstractmethod dataclass overload contextmanager _wall _WallAttr register mro elements law "
    "version_info with_traceback add_note".split()
)
PLAIN_STATEMENTS = (
    ast.Assign, ast.AugAssign, ast.If, ast.While, ast.For, ast.Return, ast.Break, ast.Continue, ast.Pass, ast.Raise, ast.Assert,
    ast.Delete, ast.Try, ast.With, ast.Expr, ast.FunctionDef,
)


def sources():
    """The text of each file of the package, by its name without the ending."""
    found = {}
    for name in sorted(os.listdir(PACKAGE)):
        if name != "__pycache__":
            with open(os.path.join(PACKAGE, name), encoding="utf-8") as file:
                found[name] = file.read()
    return found


SOURCES = sources()
TREES = {name[:-3]: ast.parse(text) for name, text in SOURCES.items()}


def functions_of(tree):
    return [node for node in ast.walk(tree) if isinstance(node, ast.FunctionDef)]


def defined_in(tree):
    return {node.name: node for node in tree.body if isinstance(node, (ast.FunctionDef, ast.ClassDef))}


def bound_in(node):
    """All names that a tree binds."""
    found = [part.id for part in ast.walk(node) if isinstance(part, ast.Name) and isinstance(part.ctx, ast.Store)]
    found.extend(part.arg for part in ast.walk(node) if isinstance(part, ast.arg))
    found.extend(part.name for part in ast.walk(node) if isinstance(part, (ast.FunctionDef, ast.ClassDef)))
    return found


def bound_at(node):
    """The names that a statement at module level binds, imports left out."""
    if isinstance(node, ast.Assign):
        return [node.targets[0].id]
    return [node.name] if isinstance(node, (ast.FunctionDef, ast.ClassDef)) else []


class TestInterface(unittest.TestCase):
    def arguments_of(self, function):
        self.assertFalse(function.args.vararg or function.args.kwarg or function.args.defaults)
        named = [argument.arg for argument in function.args.kwonlyargs]
        return [argument.arg for argument in function.args.args] + (["*"] + named if named else [])

    def test_names_and_arguments(self):
        for module, names in INTERFACE.items():
            defined = defined_in(TREES[module])
            for name, wanted in names.items():
                if isinstance(wanted, list):
                    self.assertEqual(self.arguments_of(defined[name]), wanted)
                else:
                    methods = {node.name: node for node in defined[name].body if isinstance(node, ast.FunctionDef)}
                    for method, arguments in wanted.items():
                        self.assertEqual(self.arguments_of(methods[method]), ["self"] + arguments, method)

    def test_properties_and_attributes(self):
        from behindexits.runs import Running
        from behindexits.states import States

        self.assertIsInstance(vars(States)["rows"], property)
        self.assertEqual(States(("a",), ()).__dict__["names"], ("a",))
        for name in ("asks", "where", "result"):
            self.assertIsInstance(vars(Running)[name], property)

    def test_steps_if_nothing_is_said(self):
        from behindexits.runs import run

        self.assertEqual(run.__kwdefaults__, {"steps": 1000})

    def test_a_program_has_its_values(self):
        from behindexits.programs import Program

        kept = vars(Program(("a",), ()))
        self.assertEqual((kept["inputs"], kept["block"]), (("a",), ()))


class TestLanguage(unittest.TestCase):
    def each(self):
        return sorted(TREES.items())

    def test_files(self):
        self.assertIn("__init__.py", SOURCES)
        for name, text in SOURCES.items():
            self.assertRegex(name, r"^[a-z_]+\.py$")
            self.assertLessEqual(text.count("\n"), 399, name)
            self.assertTrue(all(letter == "\n" or " " <= letter <= "~" for letter in text), name)
            self.assertLessEqual(max(len(line) for line in text.split("\n")), 120, name)
            for word in re.findall(r"[A-Za-z_0-9]+", text):
                self.assertNotIn(word, BARRED, name)
            self.assertNotIn("(type)", text)
            self.assertNotIn("Meta", text)

    def test_functions_are_short(self):
        for _, tree in self.each():
            for function in functions_of(tree):
                self.assertLessEqual(function.end_lineno - function.lineno + 1, 40, function.name)

    def test_module_level(self):
        for _, tree in self.each():
            for node in tree.body:
                if isinstance(node, ast.Assign):
                    self.assertEqual([type(target) for target in node.targets], [ast.Name])
                elif isinstance(node, ast.Expr):
                    self.assertIsInstance(node.value.value, str)
                else:
                    self.assertIsInstance(node, (ast.ImportFrom, ast.FunctionDef, ast.ClassDef))

    def test_imports(self):
        for name, tree in self.each():
            for node in ast.walk(tree):
                self.assertNotIsInstance(node, ast.Import)
                if isinstance(node, ast.ImportFrom) and node.module == "itertools":
                    self.assertIn(node, tree.body)
                    self.assertEqual([(alias.name, alias.asname) for alias in node.names], [("combinations", None)])
                elif isinstance(node, ast.ImportFrom):
                    self.assertIn(node, tree.body)
                    self.assertEqual(node.level, 0)
                    package, module = node.module.split(".")
                    self.assertEqual(package, "behindexits")
                    for alias in node.names:
                        self.assertIsNone(alias.asname)
                        self.assertIn(alias.name, {part for top in TREES[module].body for part in bound_at(top)})

    def test_imports_go_in_no_ring(self):
        left = {
            name: {node.module.split(".")[-1] for node in tree.body if isinstance(node, ast.ImportFrom)} - {"itertools"}
            for name, tree in TREES.items()
        }
        while left:
            free = [name for name, needs in left.items() if not needs & set(left)]
            self.assertTrue(free, left)
            for name in free:
                del left[name]

    def test_imported_names_are_used(self):
        for _, tree in self.each():
            used = {node.id for node in ast.walk(tree) if isinstance(node, ast.Name)}
            for node in tree.body:
                if isinstance(node, ast.ImportFrom):
                    for alias in node.names:
                        self.assertIn(alias.name, used)

    def test_statements_and_expressions(self):
        for name, tree in self.each():
            for node in ast.walk(tree):
                self.assertNotIsInstance(node, (ast.Global, ast.Nonlocal, ast.AsyncFunctionDef, ast.Await, ast.Yield, ast.Div))
                if isinstance(node, ast.Constant):
                    self.assertNotIsInstance(node.value, (float, complex))
                    if isinstance(node.value, str):
                        self.assertNotIn("%", node.value)
                        self.assertFalse(node.value.endswith(("._", ".__")))
                if isinstance(node, (ast.Set, ast.SetComp, ast.Starred, ast.GeneratorExp, ast.Lambda)):
                    self.fail("%s: line %d" % (name, node.lineno))
                if isinstance(node, ast.stmt) and not isinstance(node, PLAIN_STATEMENTS):
                    self.assertIn(node, tree.body)

    def test_classes(self):
        for _, tree in self.each():
            for node in ast.walk(tree):
                if isinstance(node, ast.ClassDef):
                    self.assertIn(node, tree.body)
                    self.assertFalse(node.decorator_list or node.keywords)
                    for method in functions_of(node):
                        self.assertTrue(method.name in DUNDERS or not method.name.startswith("__"), method.name)
                        for decorator in method.decorator_list:
                            self.assertEqual(decorator.id, "property")

    def test_builtins(self):
        """Only the builtins of L8 are used, and no name of Python's gets another meaning."""
        for _, tree in self.each():
            bound = set(bound_in(tree))
            imported = {alias.name for node in tree.body if isinstance(node, ast.ImportFrom) for alias in node.names}
            for name in bound - DUNDERS:
                self.assertFalse(hasattr(builtins, name) or name in ("type", "__name__"), name)
                self.assertNotRegex(name, r"^(__(?!\w+__$)|_pe_|_wall|_law_|_lay_|_stub_|_sre|_enum_|_cold|_outside|_record)")
            for node in ast.walk(tree):
                if isinstance(node, ast.Name) and isinstance(node.ctx, ast.Load):
                    self.assertTrue(node.id in bound | imported | BUILTINS, node.id)

    def test_names_of_imports_and_classes_are_not_bound_again(self):
        for _, tree in self.each():
            taken = {alias.name for node in tree.body if isinstance(node, ast.ImportFrom) for alias in node.names}
            taken |= {node.name for node in tree.body if isinstance(node, ast.ClassDef)}
            for function in functions_of(tree):
                for part in function.body + [function.args]:
                    self.assertFalse(taken & set(bound_in(part)), function.name)

    def test_methods_of_builtin_values(self):
        own = {node.name for tree in TREES.values() for node in functions_of(tree)}
        for name, tree in self.each():
            for node in ast.walk(tree):
                if isinstance(node, ast.Call) and isinstance(node.func, ast.Attribute):
                    self.assertTrue(node.func.attr in METHODS | own, node.func.attr)

    def test_sorting_beside_an_order(self):
        """As States has an order, sorted, min and max are told how to compare."""
        for _, tree in self.each():
            for node in ast.walk(tree):
                if isinstance(node, ast.Call) and isinstance(node.func, ast.Name):
                    if node.func.id in ("sorted", "min", "max"):
                        self.assertIn([(word.arg, word.value.id) for word in node.keywords], ([("key", "str")], [("key", "int")]))
                    if node.func.id in ("any", "all", "sum"):
                        self.assertIsInstance(node.args[0], ast.ListComp)

    def test_what_operators_run_modifies_only_its_own_lists(self):
        """In the files that the operators of States and Program run through, L5 Operators."""
        for name in ("words", "zones", "parts", "cases", "shadows", "covers", "states", "forms"):
            for function in functions_of(TREES[name]):
                own = set()
                for node in ast.walk(function):
                    if isinstance(node, ast.Assign) and isinstance(node.targets[0], ast.Name):
                        made = isinstance(node.value, (ast.List, ast.Dict, ast.ListComp))
                        made = made or isinstance(node.value, ast.Call) and getattr(node.value.func, "id", "") in ("list", "sorted")
                        if made:
                            own.add(node.targets[0].id)
                self.assert_modifies_only(function, own)

    def assert_modifies_only(self, function, own):
        for node in ast.walk(function):
            if isinstance(node, ast.Call) and isinstance(node.func, ast.Attribute):
                if node.func.attr in ("append", "extend", "insert", "pop", "remove", "reverse", "clear", "update", "setdefault"):
                    self.assertIn(node.func.value.id, own, (function.name, node.lineno))
            if isinstance(node, ast.Subscript) and isinstance(node.ctx, (ast.Store, ast.Del)):
                self.assertIn(node.value.id, own, (function.name, node.lineno))
            if isinstance(node, ast.Attribute) and isinstance(node.ctx, (ast.Store, ast.Del)):
                self.assertEqual(function.name, "__init__")
            if isinstance(node, ast.AugAssign):
                self.assertIsInstance(node.value, ast.Constant, (function.name, node.lineno))


if __name__ == "__main__":
    unittest.main()
