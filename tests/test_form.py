"""The form of the package's files: what of the rules for the language can be seen by a look at each file."""

import ast
import builtins
import os
import re
import unittest
import warnings

PACKAGE = os.path.join(os.path.dirname(os.path.dirname(os.path.abspath(__file__))), "whirlskin")
BUILTINS = set("""len range enumerate zip min max sum abs sorted reversed int str bool list tuple dict set isinstance ord
repr any all divmod Exception ValueError TypeError KeyError IndexError LookupError ZeroDivisionError
NotImplemented""".split())
LIBRARY = {"heapq", "math", "itertools", "collections"}
BARRED = (ast.AsyncFunctionDef, ast.AsyncFor, ast.AsyncWith, ast.Await, ast.Import, ast.Div)
WALKED = {"range", "zip", "enumerate", "reversed"}
VIEWS = {"items", "keys", "values"}
WALKERS = {"list", "tuple", "dict", "sorted", "sum", "any", "all", "enumerate", "zip", "min", "max"}
WORDS = re.compile(r"\b(typing|enum|Enum|namedtuple|ABC|Protocol|Generic|_wall|_WallAttr)\b")


def files():
    return sorted(name for name in os.listdir(PACKAGE) if name != "__pycache__")


def text_of(name):
    with open(os.path.join(PACKAGE, name), "rb") as file:
        return file.read().decode("ascii")


def tree_of(name):
    with warnings.catch_warnings():
        warnings.simplefilter("error")
        compile(text_of(name), name, "exec")
        return ast.parse(text_of(name))


def functions_of(tree):
    return [own for own in ast.walk(tree) if isinstance(own, ast.FunctionDef)]


def imports_of(tree):
    return [own for own in tree.body if isinstance(own, ast.ImportFrom)]


def bound_in(function):
    """The names of parameters and local variables."""
    names = {own.arg for own in ast.walk(function) if isinstance(own, ast.arg)}
    return names | {own.id for own in ast.walk(function) if isinstance(own, ast.Name) and isinstance(own.ctx, ast.Store)}


def called(own):
    """The bare name that is called, or that of the method; None if own is no call of these kinds."""
    if not isinstance(own, ast.Call):
        return None
    return own.func.id if isinstance(own.func, ast.Name) else getattr(own.func, "attr", None)


def is_walked(own):
    """Whether own is a range, a zip, a view or the like: what is to be walked on the spot."""
    return called(own) in (WALKED if isinstance(getattr(own, "func", None), ast.Name) else VIEWS)


def walked_by(own):
    """What own walks on the spot: the things behind the in of a loop, the first ones handed to list and the like."""
    if isinstance(own, (ast.For, ast.comprehension)):
        return [own.iter]
    if isinstance(own, ast.Compare) and isinstance(own.ops[0], (ast.In, ast.NotIn)):
        return [part for part in own.comparators if called(part) in ("range", "keys")]
    if called(own) == "zip":
        return own.args
    if called(own) in WALKERS or called(own) == "join" and isinstance(own.func.value, ast.Constant):
        return own.args[:1]
    return [part for part in own.args[:1] if called(part) == "range"] if called(own) in ("len", "reversed") else []


def strays(tree):
    """The lines of ranges, zips, views and the like that are kept, passed on or returned."""
    good = {id(part) for own in ast.walk(tree) for part in walked_by(own)}
    return [own.lineno for own in ast.walk(tree) if is_walked(own) and id(own) not in good]


class Form(unittest.TestCase):
    def test_files_and_lines(self):
        for name in files():
            with self.subTest(name=name):
                self.assertRegex(name, r"\A[a-z_0-9]+\.py\Z")
                lines = text_of(name).split("\n")
                self.assertLessEqual(len(lines), 400)
                self.assertLessEqual(max(len(line) for line in lines), 120)
                self.assertRegex(text_of(name), r"\A[ -~\n]*\n\Z")
                self.assertIsNone(WORDS.search(text_of(name)))

    def test_no_function_is_long(self):
        for name in files():
            for function in functions_of(tree_of(name)):
                with self.subTest(name=name, function=function.name):
                    self.assertLessEqual(function.end_lineno - function.lineno + 1, 40)
                    self.assertEqual(function.decorator_list, [])
                    self.assertTrue(ast.get_docstring(function) or function.name in ("__init__", "__eq__"))

    def test_module_level(self):
        for name in files():
            for own in tree_of(name).body:
                with self.subTest(name=name, line=own.lineno):
                    docstring = isinstance(own, ast.Expr) and isinstance(own.value, ast.Constant)
                    plain = (ast.ImportFrom, ast.FunctionDef, ast.ClassDef, ast.Assign)
                    self.assertTrue(docstring or isinstance(own, plain))

    def test_imports_name_the_file_that_defines_the_name(self):
        for name in files():
            for own in imports_of(tree_of(name)):
                if own.module not in LIBRARY:
                    with self.subTest(name=name, module=own.module):
                        self.assertEqual(own.level, 0)
                        package, module = own.module.split(".")
                        self.assertEqual(package, "whirlskin")
                        defined = {part.name for part in tree_of(module + ".py").body
                                   if isinstance(part, (ast.FunctionDef, ast.ClassDef))}
                        self.assertLessEqual({part.name for part in own.names}, defined)
                        self.assertTrue(all(part.asname is None for part in own.names))

    def test_nothing_is_imported_but_the_package_and_what_counts_or_queues(self):
        for name in files():
            for own in ast.walk(tree_of(name)):
                if isinstance(own, (ast.Import, ast.ImportFrom)):
                    with self.subTest(name=name, line=own.lineno):
                        self.assertIsInstance(own, ast.ImportFrom)
                        self.assertTrue(own.module in LIBRARY or own.module.startswith("whirlskin."))

    def test_no_file_imports_itself_through_others(self):
        known = {name[:-3]: [own.module.split(".")[-1] for own in imports_of(tree_of(name))
                             if own.module not in LIBRARY] for name in files()}
        done = []
        while len(done) < len(known):
            ready = [name for name in known if name not in done and set(known[name]) <= set(done)]
            self.assertTrue(ready, "files that import from each other")
            done += ready

    def test_nothing_is_used_that_is_barred(self):
        for name in files():
            for own in ast.walk(tree_of(name)):
                with self.subTest(name=name, line=getattr(own, "lineno", None)):
                    self.assertNotIsInstance(own, BARRED)
                    if isinstance(own, ast.Constant):
                        self.assertNotIsInstance(own.value, (float, complex))
                    if isinstance(own, ast.Name) and hasattr(builtins, own.id):
                        self.assertIn(own.id, BUILTINS)

    def test_ranges_and_the_like_are_walked_on_the_spot(self):
        for name in files():
            with self.subTest(name=name):
                self.assertEqual(strays(tree_of(name)), [])

    def test_what_is_not_walked_on_the_spot_is_seen(self):
        for line in ("return range(3)", "x = zip(a, b)", "x = [range(2)]", "f(d.items())", "return d.keys()", "x = reversed(a)[0]",
                     "x = set(d.values())", "x = reversed(zip(a, b))", "return enumerate(a), 1", "x = range(2) == a"):
            with self.subTest(line=line):
                self.assertIn(1, strays(ast.parse(line)))
        for line in ("list(range(3))", "for k in range(3): pass", "[k for k, v in d.items()]", "k in range(4)", "dict(zip(a, b))",
                     "sorted(d.keys())", "list(enumerate(zip(a, range(3))))", "len(range(k))", "','.join(reversed(a))", "a[range]"):
            with self.subTest(line=line):
                self.assertEqual(strays(ast.parse(line)), [])

    def test_no_name_means_two_things(self):
        for name in files():
            tree = tree_of(name)
            taken = {part.name for own in imports_of(tree) for part in own.names}
            taken |= {own.name for own in tree.body if isinstance(own, (ast.FunctionDef, ast.ClassDef))}
            for function in functions_of(tree):
                with self.subTest(name=name, function=function.name):
                    self.assertEqual(bound_in(function) & taken, set())
                    self.assertEqual({own for own in bound_in(function) if hasattr(builtins, own)}, set())

    def test_each_import_is_used(self):
        for name in files():
            tree = tree_of(name)
            used = {own.id for own in ast.walk(tree) if isinstance(own, ast.Name)}
            for own in imports_of(tree):
                with self.subTest(name=name, module=own.module):
                    self.assertLessEqual({part.name for part in own.names}, used)


if __name__ == "__main__":
    unittest.main()
