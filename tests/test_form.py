"""The form of the package: what of the language's rules can be seen file by file."""

import ast
import builtins
import pathlib
import re
import unittest

FOLDER = pathlib.Path(__file__).resolve().parent.parent / "kinsignals"
FILES = sorted(FOLDER.glob("*.py"))

# What the interface lists, and the file under which it lists it.
INTERFACE = {
    "errors": (
        "KinError", "NoTitle", "NoOne", "NoSession", "NoText", "NoBook", "NoTyped", "NoEntry", "NoScript", "TooMany",
        "NoLine", "NoHouse",
    ),
    "signals": ("SIGNALS",),
    "programs": ("is_row", "is_book"),
    "houses": ("House",),
    "scripts": ("walk", "tale", "of_one"),
    "stillness": ("why", "still", "chain"),
    "touching": ("touched", "meet"),
    "reaching": ("reached", "script_to", "stills", "MOST"),
    "reachlooks": ("shows_reached",),
    "rebuilding": ("rebuilt", "counted"),
    "showing": ("show_book",),
    "reading": ("read_book",),
    "desk": ("Desk", "KEPT"),
}
METHODS = {
    "House": (
        "__init__", "person", "names", "front", "typed", "sessions", "twin", "step", "__eq__", "__len__", "__str__",
    ),
    "Desk": ("__init__", "say", "say_all", "log"),
}

BUILTINS = (
    "len range enumerate zip min max sum abs sorted reversed int str bool bytes list tuple dict set frozenset "
    "isinstance ord repr any all divmod iter next super property staticmethod classmethod Exception ValueError "
    "TypeError KeyError IndexError LookupError ZeroDivisionError ArithmeticError OverflowError RuntimeError "
    "NotImplementedError AttributeError StopIteration NotImplemented"
).split()

BARRED_WORDS = (
    "type typing typing_extensions enum Enum IntEnum StrEnum Flag IntFlag Generic Protocol ABC ABCMeta namedtuple "
    "NamedTuple TypedDict TYPE_CHECKING abstractmethod"
).split()
BARRED_NAMES = (
    "register mro elements open input law version_info with_traceback add_note attrgetter breakpoint builtins compile "
    "copyright credits delattr dir eval exec exit gc getattr globals hasattr help id importlib license locals "
    "methodcaller os quit setattr type vars sys"
).split()
# The methods of builtin values that are used here; the language knows more of them.
BUILTIN_METHODS = ("append", "count", "extend", "index", "join", "replace", "split", "startswith")
TAKE_LISTS = ("any", "all", "min", "max", "sum", "sorted")
SPECIAL = ("__init__", "__eq__", "__repr__", "__str__", "__len__", "__enter__", "__exit__", "__call__", "__iter__")


def bound_names(tree):
    """Every name that a file gives to something."""
    for node in ast.walk(tree):
        if isinstance(node, (ast.FunctionDef, ast.ClassDef)):
            yield node.name
        elif isinstance(node, ast.arg):
            yield node.arg
        elif isinstance(node, ast.Name) and isinstance(node.ctx, ast.Store):
            yield node.id
        elif isinstance(node, ast.ImportFrom):
            yield from [alias.asname or alias.name for alias in node.names]


def defined_names(tree):
    """The names that stand at module level, imports apart."""
    for node in tree.body:
        if isinstance(node, (ast.FunctionDef, ast.ClassDef)):
            yield node.name
        elif isinstance(node, ast.Assign):
            yield from [target.id for target in node.targets]


def attributes(tree, context):
    """The names of all attributes that are read, or assigned, in a file."""
    for node in ast.walk(tree):
        if isinstance(node, ast.Attribute) and isinstance(node.ctx, context):
            yield node.attr


def methods(tree):
    for node in ast.walk(tree):
        if isinstance(node, ast.ClassDef):
            yield from [inner.name for inner in node.body if isinstance(inner, ast.FunctionDef)]


def imported_names(tree):
    for node in tree.body:
        if isinstance(node, ast.ImportFrom):
            yield from [(alias.name, node.module.split(".")[1]) for alias in node.names]


def local_names(tree):
    """The names of parameters and local variables."""
    for node in ast.walk(tree):
        if isinstance(node, ast.FunctionDef):
            for inner in ast.walk(node):
                if isinstance(inner, ast.arg):
                    yield inner.arg
                elif isinstance(inner, ast.Name) and isinstance(inner.ctx, ast.Store):
                    yield inner.id


class Form(unittest.TestCase):
    def each(self):
        for path in FILES:
            text = path.read_text(encoding="utf-8")
            with self.subTest(path.name):
                yield path, text, ast.parse(text)

    def test_one_folder_of_files(self):
        there = sorted(path.name for path in FOLDER.iterdir() if path.name != "__pycache__")
        self.assertEqual(there, [path.name for path in FILES])
        self.assertIn("__init__.py", there)
        for name in there:
            self.assertRegex(name, r"\A[a-z0-9_]+\.py\Z")
            self.assertNotRegex(name, r"\A(test|law_|site|conftest)")

    def test_sizes(self):
        for path, text, tree in self.each():
            lines = text.split("\n")
            self.assertLessEqual(len(lines), 399)
            self.assertLessEqual(max(len(line) for line in lines), 120)
            for node in ast.walk(tree):
                if isinstance(node, ast.FunctionDef):
                    self.assertLessEqual(node.end_lineno - node.lineno + 1, 40, node.name)

    def test_signs_and_words(self):
        for path, text, tree in self.each():
            self.assertRegex(text, r"\A[ -~\n]*\Z")
            self.assertFalse(set(re.findall(r"\w+", text)) & set(BARRED_WORDS))
            self.assertNotRegex(text, r"dataclass|overload|contextmanager")
            for node in ast.walk(tree):
                if isinstance(node, ast.Constant) and isinstance(node.value, str):
                    self.assertNotIn("%", node.value)
                self.assertFalse(isinstance(node, ast.Constant) and isinstance(node.value, float))

    def test_names(self):
        for path, text, tree in self.each():
            for name in bound_names(tree):
                self.assertTrue(not name.startswith("_") or name in SPECIAL, name)
                self.assertNotIn(name, BARRED_NAMES)
                self.assertNotIn(name, dir(builtins) if name not in SPECIAL else ())
            for node in ast.walk(tree):
                if isinstance(node, ast.Name) and node.id in dir(builtins):
                    self.assertIn(node.id, BUILTINS)

    def test_imports(self):
        for path, text, tree in self.each():
            for node in ast.walk(tree):
                self.assertNotIsInstance(node, ast.Import)
                if not isinstance(node, ast.ImportFrom):
                    continue
                self.assertIn(node, tree.body)
                self.assertRegex(node.module, r"\Akinsignals\.[a-z0-9_]+\Z")
                source = FOLDER / (node.module.split(".")[1] + ".py")
                there = list(defined_names(ast.parse(source.read_text(encoding="utf-8"))))
                for alias in node.names:
                    self.assertIn(alias.name, there)

    def test_module_level(self):
        for path, text, tree in self.each():
            names = list(defined_names(tree))
            self.assertEqual(len(names), len(set(names)))
            allowed = (ast.FunctionDef, ast.ClassDef, ast.Assign, ast.ImportFrom)
            for at, node in enumerate(tree.body):
                docstring = at == 0 and isinstance(node, ast.Expr) and isinstance(node.value, ast.Constant)
                self.assertTrue(docstring or isinstance(node, allowed))

    def test_the_interface_stands_in_its_files(self):
        for name, wanted in INTERFACE.items():
            tree = ast.parse((FOLDER / (name + ".py")).read_text(encoding="utf-8"))
            there = list(defined_names(tree))
            for word in wanted:
                self.assertIn(word, there)

    def test_the_methods_stand_in_their_class(self):
        for path, text, tree in self.each():
            for node in tree.body:
                if isinstance(node, ast.ClassDef) and node.name in METHODS:
                    there = [inner.name for inner in node.body if isinstance(inner, ast.FunctionDef)]
                    self.assertEqual(len(there), len(set(there)))
                    self.assertLessEqual(set(METHODS[node.name]), set(there))

    def test_methods_and_attributes_are_apart(self):
        trees = [tree for path, text, tree in self.each()]
        own_methods = {name for tree in trees for name in methods(tree)}
        assigned = {name for tree in trees for name in attributes(tree, ast.Store)}
        read = {name for tree in trees for name in attributes(tree, ast.Load)}
        self.assertFalse(own_methods & assigned)
        self.assertLessEqual(read, own_methods | assigned | set(BUILTIN_METHODS))
        self.assertFalse((own_methods | assigned) & set(BUILTIN_METHODS))
        for name in own_methods:
            self.assertTrue(name in SPECIAL or not name.startswith("_"), name)

    def test_attributes_are_assigned_through_local_names(self):
        for path, text, tree in self.each():
            for node in ast.walk(tree):
                if isinstance(node, ast.Attribute) and isinstance(node.ctx, ast.Store):
                    self.assertIsInstance(node.value, ast.Name)

    def test_local_names_are_no_imports_and_no_classes(self):
        for path, text, tree in self.each():
            taken = {name for name, file in imported_names(tree)}
            taken |= {node.name for node in tree.body if isinstance(node, ast.ClassDef)}
            self.assertFalse(taken & set(local_names(tree)))

    def test_imports_are_used_and_lead_to_no_circle(self):
        ways = {}
        for path, text, tree in self.each():
            used = {node.id for node in ast.walk(tree) if isinstance(node, ast.Name)}
            self.assertLessEqual({name for name, file in imported_names(tree)}, used)
            ways[path.stem] = {file for name, file in imported_names(tree)}
        while ways:
            free = [file for file in ways if not ways[file] & set(ways)]
            self.assertTrue(free, ways)
            for file in free:
                del ways[file]

    def test_only_own_refusals_are_caught_and_raised(self):
        for path, text, tree in self.each():
            for node in ast.walk(tree):
                if isinstance(node, ast.ExceptHandler):
                    self.assertIn(ast.unparse(node.type), INTERFACE["errors"])
                if isinstance(node, ast.Raise) and node.exc is not None:
                    self.assertIsInstance(node.exc, ast.Call)
                    self.assertIn(ast.unparse(node.exc.func), INTERFACE["errors"])
                if isinstance(node, ast.Try):
                    # Of what may stand behind finally nothing is needed but a word put behind others.
                    for last in node.finalbody:
                        self.assertRegex(ast.unparse(last), r"\Aself\.[a-z]+\.append\('[a-z]+'\)\Z")

    def test_tables_hold_what_stands_above_them(self):
        """A table at module level holds plain values, tuples of these, and functions of its own file."""
        for path, text, tree in self.each():
            above = set()
            for node in tree.body:
                if isinstance(node, ast.FunctionDef):
                    above.add(node.name)
                if isinstance(node, ast.Assign):
                    for inner in ast.walk(node.value):
                        self.assertIsInstance(inner, (
                            ast.Constant, ast.Tuple, ast.Dict, ast.Name, ast.Load, ast.UnaryOp, ast.USub,
                        ))
                        if isinstance(inner, ast.Name):
                            self.assertIn(inner.id, above)

    def test_expressions(self):
        barred = (
            ast.Global, ast.Nonlocal, ast.Lambda, ast.SetComp, ast.Set, ast.Div, ast.AsyncFunctionDef, ast.Await,
            ast.With, ast.Match, ast.Yield, ast.YieldFrom, ast.NamedExpr, ast.Global, ast.AnnAssign,
        )
        for path, text, tree in self.each():
            for node in ast.walk(tree):
                # Some of these the language allows in places; nothing here needs them.
                self.assertNotIsInstance(node, barred)
                if isinstance(node, ast.Compare):
                    for sign, other in zip(node.ops, node.comparators):
                        if isinstance(sign, (ast.Is, ast.IsNot)):
                            self.assertIn(ast.unparse(other), ("None", "True", "False"))
                if isinstance(node, ast.Call) and isinstance(node.func, ast.Name) and node.func.id in TAKE_LISTS:
                    self.assertFalse([inner for inner in node.args if isinstance(inner, ast.GeneratorExp)])
                if isinstance(node, ast.FunctionDef):
                    self.assertEqual(node.decorator_list, [])


if __name__ == "__main__":
    unittest.main()
