"""The rules of LANGUAGE.md that can be seen in the package's files, file by file.

It looks for what is plainly outside the subset; what it passes may still break a rule that it can't see.
"""

import ast
import builtins
import pathlib
import re
import unittest

PACKAGE = pathlib.Path(__file__).resolve().parent.parent / "ropecabins"

BUILTINS = set(
    "len range enumerate zip min max sum abs sorted reversed int str bool bytes list tuple dict set frozenset "
    "isinstance ord repr any all divmod Exception ValueError TypeError KeyError IndexError LookupError "
    "ZeroDivisionError ArithmeticError OverflowError RuntimeError NotImplementedError AttributeError StopIteration "
    "NotImplemented property staticmethod classmethod super object float".split()
)
WORDS = (
    "type typing typing_extensions enum Enum IntEnum StrEnum Flag IntFlag Generic Protocol ABC ABCMeta namedtuple "
    "NamedTuple TypedDict TYPE_CHECKING abstractmethod".split()
)
NOT_USED = set(
    "register mro elements open input version_info with_traceback add_note format format_map __dict__ __class__".split()
)
BARRED = (
    ast.Global, ast.AsyncFunctionDef, ast.AsyncFor, ast.AsyncWith, ast.Await, ast.Import, ast.Div, ast.MatMult,
    ast.MatchClass, ast.MatchMapping,
)


def faults(text):
    """What is wrong with one file's text, as a list of pairs of a rule and a line."""
    tree = ast.parse(text)
    return sign_faults(text) + size_faults(text, tree) + node_faults(tree) + name_faults(tree)


def sign_faults(text):
    found = []
    for at, line in enumerate(text.split("\n"), start=1):
        if any(not " " <= sign <= "~" for sign in line):
            found.append(("L14", at))
        if len(line) > 120:
            found.append(("L10", at))
        if any(re.search(rf"\b{word}\b", line) for word in WORDS):
            found.append(("L17", at))
        if re.search("dataclass|overload|contextmanager", line):
            found.append(("L17", at))
    return found


def size_faults(text, tree):
    found = [("L10", 1)] if len(text.splitlines()) > 400 else []
    for node in ast.walk(tree):
        if isinstance(node, ast.FunctionDef) and node.end_lineno - node.lineno >= 40:
            found.append(("L10", node.lineno))
    return found


def node_faults(tree):
    found = []
    for node in ast.walk(tree):
        if isinstance(node, BARRED):
            found.append(("L6", node.lineno if hasattr(node, "lineno") else 0))
        if isinstance(node, ast.Constant) and isinstance(node.value, (float, complex)):
            found.append(("L7", node.lineno))
        if isinstance(node, ast.Constant) and isinstance(node.value, str) and "%" in node.value:
            found.append(("L27", node.lineno))
        if isinstance(node, ast.ImportFrom) and not import_is_plain(node):
            found.append(("L2", node.lineno))
        if isinstance(node, ast.ExceptHandler) and node.type is None:
            found.append(("L6", node.lineno))
        if isinstance(node, ast.Compare):
            found += is_faults(node)
    for node in tree.body:
        if not isinstance(node, (ast.ImportFrom, ast.FunctionDef, ast.ClassDef, ast.Assign, ast.AnnAssign, ast.Expr)):
            found.append(("L3", node.lineno))
        if isinstance(node, ast.Expr) and not isinstance(node.value, ast.Constant):
            found.append(("L3", node.lineno))
    return found


def is_faults(node):
    return [
        ("L20", node.lineno) for sign, right in zip(node.ops, node.comparators)
        if isinstance(sign, (ast.Is, ast.IsNot)) and not is_plain_constant(right)
    ]


def is_plain_constant(node):
    return isinstance(node, ast.Constant) and (node.value is None or isinstance(node.value, bool))


def import_is_plain(node):
    if node.module == "__future__":
        return [name.name for name in node.names] == ["annotations"]
    named = node.level == 0 and node.module is not None and node.module.startswith("ropecabins.")
    return named and all(name.name != "*" for name in node.names)


def bound_names(tree):
    """All names that the file binds anywhere, each with its line."""
    for node in ast.walk(tree):
        if isinstance(node, (ast.FunctionDef, ast.ClassDef)):
            yield node.name, node.lineno
        elif isinstance(node, ast.arg):
            yield node.arg, node.lineno
        elif isinstance(node, ast.Name) and not isinstance(node.ctx, ast.Load):
            yield node.id, node.lineno
        elif isinstance(node, ast.ImportFrom):
            yield from ((name.asname or name.name, node.lineno) for name in node.names)
        elif isinstance(node, ast.ExceptHandler) and node.name:
            yield node.name, node.lineno
        elif isinstance(node, (ast.MatchAs, ast.MatchStar)) and node.name:
            yield node.name, node.lineno


def method_lines(tree):
    return {
        node.lineno for owner in ast.walk(tree) if isinstance(owner, ast.ClassDef)
        for node in owner.body if isinstance(node, ast.FunctionDef)
    }


def name_faults(tree):
    found = []
    known = {name for name, at in bound_names(tree)}
    methods = method_lines(tree)
    for name, at in bound_names(tree):
        if name.startswith("_") and at not in methods and name not in ("__all__", "__version__"):
            found.append(("L12", at))
        if hasattr(builtins, name) and at not in methods:
            found.append(("L15", at))
        if name in NOT_USED:
            found.append(("L17", at))
    for node in ast.walk(tree):
        if isinstance(node, ast.Name) and node.id not in known and node.id not in BUILTINS:
            found.append(("L8", node.lineno))
        if isinstance(node, ast.Attribute) and (node.attr in NOT_USED or node.attr.startswith("_")):
            if node.attr not in ("__init__", "__name__"):
                found.append(("L17", node.lineno))
    return found


def imported(path):
    """The files of the package that a file imports from, by their names."""
    tree = ast.parse(path.read_text("utf-8"))
    modules = [node.module for node in ast.walk(tree) if isinstance(node, ast.ImportFrom)]
    return [module.split(".")[1] for module in modules if module.startswith("ropecabins.")]


def class_names(trees):
    """The names of all methods, of all attributes that are assigned, and of all that are read and not called."""
    methods, assigned, read = set(), set(), set()
    for tree in trees:
        called = {id(node.func) for node in ast.walk(tree) if isinstance(node, ast.Call)}
        for node in ast.walk(tree):
            if isinstance(node, ast.ClassDef):
                methods |= {item.name for item in node.body if isinstance(item, ast.FunctionDef)}
            elif isinstance(node, ast.Attribute) and not isinstance(node.ctx, ast.Load):
                assigned.add(node.attr)
            elif isinstance(node, ast.Attribute) and id(node) not in called:
                read.add(node.attr)
    return methods, assigned, read


def class_faults(trees):
    """What is wrong with the names of methods and attributes in all files together, as pairs of a rule and a name."""
    methods, assigned, read = class_names(trees)
    builtin = {name for kind in (str, int, list, tuple, dict, set, bytes) for name in dir(kind)}
    found = [("L18", name) for name in sorted(methods & assigned)]
    found += [("L18", name) for name in sorted(read - assigned - methods)]
    found += [("L26", name) for name in sorted(assigned & builtin)]
    return found + [("L26", name) for name in sorted(methods & builtin) if not name.startswith("__")]


def rules(text):
    return {rule for rule, at in faults(text)}


class PackageTest(unittest.TestCase):
    def paths(self):
        return [path for path in sorted(PACKAGE.iterdir()) if path.name != "__pycache__"]

    def test_the_folder_contains_only_python_files_with_plain_names(self):
        self.assertIn("__init__.py", [path.name for path in self.paths()])
        for path in self.paths():
            self.assertRegex(path.name, r"^(__init__|[a-z][a-z0-9_]*)\.py$")
            self.assertNotIn(path.stem, vars(builtins))

    def test_each_file_keeps_to_the_rules(self):
        for path in self.paths():
            with self.subTest(path.name):
                self.assertEqual(faults(path.read_text("utf-8")), [])

    def test_each_import_names_the_file_that_defines_the_name(self):
        for path in self.paths():
            for node in ast.walk(ast.parse(path.read_text("utf-8"))):
                if isinstance(node, ast.ImportFrom) and node.module != "__future__":
                    source = PACKAGE / (node.module.split(".")[1] + ".py")
                    tree = ast.parse(source.read_text("utf-8"))
                    defined = {item.name for item in tree.body if isinstance(item, (ast.FunctionDef, ast.ClassDef))}
                    for item in tree.body:
                        if isinstance(item, ast.Assign):
                            defined |= {target.id for target in item.targets}
                    self.assertLessEqual({name.name for name in node.names}, defined, path.name)

    def test_names_of_methods_and_attributes(self):
        self.assertEqual(class_faults([ast.parse(path.read_text("utf-8")) for path in self.paths()]), [])

    def test_no_two_files_import_from_each_other(self):
        above = {path.stem: imported(path) for path in self.paths()}
        done = set()
        while len(done) < len(above):
            ready = [stem for stem in above if stem not in done and set(above[stem]) <= done]
            self.assertNotEqual(ready, [], "imports go around")
            done |= set(ready)


class CheckerTest(unittest.TestCase):
    """The checks above find what they are for."""

    def test_plain_code_passes(self):
        self.assertEqual(faults('"""Why."""\n\n\ndef told(many):\n    return [k for k in range(many)]\n'), [])

    def test_what_is_outside_is_found(self):
        for rule, text in (
            ("L2", "from os import path\n"), ("L2", "from .errors import Full\n"), ("L6", "import sys\n"),
            ("L3", "if 1:\n    pass\n"), ("L3", "len('a')\n"), ("L6", "def f():\n    global k\n    k = 1\n"),
            ("L6", "def f(a):\n    return a / 2\n"), ("L7", "K = 1.5\n"), ("L8", "def f(a):\n    return hash(a)\n"),
            ("L8", "def f(a):\n    return missing(a)\n"), ("L10", "def f():\n" + "    pass\n" * 40),
            ("L10", "# " + "a" * 120 + "\n"), ("L10", "# a\n" * 401), ("L12", "def _f():\n    pass\n"),
            ("L14", "# \u00e9\n"), ("L14", "# a\tb\n"), ("L15", "def f(id):\n    return id\n"), ("L17", "# a type\n"),
            ("L17", "def f(a):\n    return a.__class__\n"), ("L20", "def f(a, b):\n    return a is b\n"),
            ("L27", "K = '%'\n"),
        ):
            with self.subTest(text[:40]):
                self.assertIn(rule, rules(text))

    def test_names_that_clash_are_found(self):
        one = ast.parse("class A:\n    def many(self):\n        return self.few\n")
        other = ast.parse("class B:\n    def __init__(self):\n        self.many = 1\n        self.keys = 2\n")
        self.assertEqual(class_faults([one]), [("L18", "few")])
        self.assertEqual(class_faults([other]), [("L26", "keys")])
        self.assertEqual(class_faults([one, other]), [("L18", "many"), ("L18", "few"), ("L26", "keys")])
        self.assertEqual(class_faults([ast.parse("class C:\n    def pop(self):\n        pass\n")]), [("L26", "pop")])


if __name__ == "__main__":
    unittest.main()
