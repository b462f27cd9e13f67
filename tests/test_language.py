"""What ../shared/LANGUAGE.md asks of the files of the package, as far as it can be read off them."""

import ast
import builtins
import pathlib
import re
import unittest

FOLDER = pathlib.Path(__file__).resolve().parent.parent / "aliasparams"
FILES = sorted(path for path in FOLDER.rglob("*") if path.suffix != ".pyc" and path.name != "__pycache__")

BUILTINS = set("""len range enumerate zip min max sum abs sorted reversed int str bool list tuple dict set
    isinstance ord repr any all divmod Exception ValueError TypeError KeyError IndexError LookupError
    ZeroDivisionError ArithmeticError OverflowError RuntimeError NotImplementedError NotImplemented
    map iter next type property classmethod""".split())

METHODS = set("""append clear copy count endswith extend find get index insert isalnum isalpha isdigit islower
    isspace isupper items join keys ljust lower lstrip partition pop remove replace reverse rfind rjust
    rpartition rsplit rstrip setdefault split splitlines startswith strip update upper values zfill
    bit_length title capitalize swapcase casefold removeprefix removesuffix rindex isascii""".split())

WORDS = """register mro elements open input law version_info with_traceback add_note attrgetter breakpoint
    builtins compile copyright credits delattr dir eval exec exit gc globals help id importlib license locals
    methodcaller os quit vars sys""".split()

DUNDERS = set("""__init__ __eq__ __repr__ __str__ __len__ __enter__ __exit__ __call__ __iter__ __lt__ __le__
    __gt__ __ge__ __ne__ __contains__ __bool__ __getitem__""".split())

STRANGERS = (ast.GeneratorExp, ast.AsyncFunctionDef, ast.Global, ast.Import, ast.Try)


def tree_of(path):
    return ast.parse(path.read_text())


def nodes_of(path, *kinds):
    return [node for node in ast.walk(tree_of(path)) if isinstance(node, kinds)]


def docstrings(tree):
    found = []
    for node in ast.walk(tree):
        if isinstance(node, (ast.Module, ast.FunctionDef, ast.ClassDef)) and node.body:
            first = node.body[0]
            if isinstance(first, ast.Expr) and isinstance(first.value, ast.Constant):
                found.append(first.value)
    return found


def bound_names(tree):
    """The names that a file gives a meaning."""
    found = set()
    for node in ast.walk(tree):
        if isinstance(node, (ast.FunctionDef, ast.ClassDef)):
            found.add(node.name)
        elif isinstance(node, ast.arg):
            found.add(node.arg)
        elif isinstance(node, ast.alias):
            found.add(node.asname or node.name)
        elif isinstance(node, ast.Name) and not isinstance(node.ctx, ast.Load):
            found.add(node.id)
    return found


class Files(unittest.TestCase):

    def test_folder(self):
        self.assertTrue(FILES)
        for path in FILES:
            self.assertRegex(path.name, r"^[a-z_]+\.py$")
            self.assertEqual(path.parent, FOLDER)
            self.assertNotIn(path.stem, dir(builtins))
        self.assertIn("__init__.py", [path.name for path in FILES])

    def test_signs_and_sizes(self):
        for path in FILES:
            text = path.read_text(encoding="ascii")
            self.assertRegex(text, r"\A[ -~\n]*\Z", path)
            self.assertLessEqual(len(text.splitlines()), 399, path)
            self.assertLessEqual(max(map(len, text.splitlines())), 120, path)
            self.assertIsNone(re.search(r"_wall|[ \t]\n", text), path)
            for node in nodes_of(path, ast.FunctionDef):
                self.assertLessEqual(node.end_lineno - node.lineno + 1, 40, (path, node.name))

    def test_module_level(self):
        for path in FILES:
            for node in tree_of(path).body:
                self.assertIsInstance(
                    node, (ast.Expr, ast.ImportFrom, ast.FunctionDef, ast.ClassDef, ast.Assign), path)
                if isinstance(node, ast.Assign):
                    self.check_plain(path, node)
                if isinstance(node, ast.Expr):
                    self.assertIsInstance(node.value, ast.Constant)

    def check_plain(self, path, node):
        """A plain value, or a table of functions that are defined above it."""
        names = [inner.id for inner in ast.walk(node.value) if isinstance(inner, ast.Name)]
        if not names:
            ast.literal_eval(node.value)
            return
        self.assertIsInstance(node.value, ast.Dict, path)
        above = [inner.name for inner in tree_of(path).body if isinstance(inner, ast.FunctionDef) and inner.lineno < node.lineno]
        self.assertEqual([inner.id for inner in node.value.values], names, path)
        self.assertLessEqual(set(names), set(above), path)


class Imports(unittest.TestCase):

    def test_they_name_the_defining_file(self):
        for path in FILES:
            for node in nodes_of(path, ast.ImportFrom):
                package, _, name = node.module.partition(".")
                self.assertEqual((package, node.level), ("aliasparams", 0), path)
                defined = [inner for inner in tree_of(FOLDER / (name + ".py")).body]
                names = {getattr(inner, "name", None) for inner in defined}
                names |= {inner.targets[0].id for inner in defined if isinstance(inner, ast.Assign)}
                for alias in node.names:
                    self.assertIsNone(alias.asname)
                    self.assertIn(alias.name, names, path)

    def test_all_are_used(self):
        for path in FILES:
            used = {node.id for node in nodes_of(path, ast.Name)}
            for node in nodes_of(path, ast.ImportFrom):
                for alias in node.names:
                    self.assertIn(alias.name, used, path)

    def test_no_circles(self):
        needs = {path.stem: {node.module.partition(".")[2] for node in nodes_of(path, ast.ImportFrom)} for path in FILES}
        while needs:
            free = [name for name in needs if not needs[name] & set(needs)]
            self.assertTrue(free, needs)
            for name in free:
                del needs[name]


class Code(unittest.TestCase):

    def test_names(self):
        for path in FILES:
            tree = tree_of(path)
            bound = bound_names(tree)
            self.assertFalse(bound & set(dir(builtins)), path)
            self.assertFalse(bound & set(WORDS), path)
            for node in nodes_of(path, ast.Name):
                if node.id not in bound:
                    self.assertIn(node.id, BUILTINS, (path, node.lineno))
            for name in bound:
                self.assertTrue(name in DUNDERS or re.match("_?[A-Za-z]|_$", name), (path, name))

    def test_outer_names_keep_their_meaning(self):
        for path in FILES:
            tree = tree_of(path)
            outer = {alias.name for node in nodes_of(path, ast.ImportFrom) for alias in node.names}
            outer |= {node.name for node in nodes_of(path, ast.ClassDef)}
            inner = {node.arg for node in nodes_of(path, ast.arg)}
            inner |= {node.id for node in nodes_of(path, ast.Name) if not isinstance(node.ctx, ast.Load)}
            self.assertFalse(outer & inner, path)
            once = [node.name for node in tree.body if isinstance(node, (ast.FunctionDef, ast.ClassDef))]
            self.assertEqual(len(once), len(set(once)), path)

    def test_methods(self):
        own = {node.name for path in FILES for node in nodes_of(path, ast.FunctionDef)}
        builtin = set().union(*[dir(kind) for kind in (str, list, dict, tuple, set, int, bytes)])
        for path in FILES:
            for node in nodes_of(path, ast.Attribute):
                self.assertNotIn(node.attr, WORDS + ["format", "sort"], (path, node.lineno))
                if node.attr in builtin and node.attr != "__init__":
                    self.assertIn(node.attr, METHODS | own, (path, node.lineno))
                    self.assertFalse(node.attr.startswith("__"), (path, node.lineno))

    def test_statements(self):
        for path in FILES:
            for node in nodes_of(path, *STRANGERS):
                # An own error may be caught; nothing else is here.
                self.assertIsInstance(node, ast.Try, (path, node.lineno))
                for handler in node.handlers:
                    for kind in getattr(handler.type, "elts", [handler.type]):
                        self.assertNotIn(kind.id, dir(builtins), (path, node.lineno))
            methods = [inner for node in nodes_of(path, ast.ClassDef) for inner in node.body]
            for node in nodes_of(path, ast.ClassDef, ast.FunctionDef):
                decorators = [inner.id for inner in node.decorator_list]
                is_method = node.lineno in [method.lineno for method in methods]
                self.assertIn(decorators, [[], ["property"], ["classmethod"]] if is_method else [[]], (path, node.lineno))
                if isinstance(node, ast.FunctionDef) and node.name.startswith("__"):
                    self.assertIn(node.name, DUNDERS)

    def test_expressions(self):
        for path in FILES:
            for node in nodes_of(path, ast.BinOp):
                self.assertNotIsInstance(node.op, (ast.Div, ast.Mod, ast.Pow, ast.MatMult), (path, node.lineno))
            for node in nodes_of(path, ast.Compare):
                for operator, right in zip(node.ops, node.comparators):
                    if isinstance(operator, (ast.Is, ast.IsNot)):
                        self.assertIsInstance(right, ast.Constant, (path, node.lineno))
            lambdas = [node.lineno for node in nodes_of(path, ast.Lambda)]
            self.assertEqual(len(lambdas), len(set(lambdas)), path)

    def test_strings(self):
        for path in FILES:
            tree = tree_of(path)
            texts = {id(node) for node in docstrings(tree)}
            for node in ast.walk(tree):
                if isinstance(node, ast.Constant):
                    self.assertNotIsInstance(node.value, (float, complex), (path, node.lineno))
                if isinstance(node, ast.Constant) and isinstance(node.value, str) and id(node) not in texts:
                    self.assertNotIn("%", node.value, (path, node.lineno))
                    self.assertNotIn("__", node.value, (path, node.lineno))

    def test_sets_are_only_measured_or_asked(self):
        for path in FILES:
            tree = tree_of(path)
            allowed = set()
            for node in ast.walk(tree):
                if isinstance(node, ast.Call) and isinstance(node.func, ast.Name) and node.func.id in ("len", "sorted"):
                    allowed |= {id(inner) for inner in node.args}
                if isinstance(node, ast.Compare):
                    allowed |= {id(inner) for inner in node.comparators}
            for node in ast.walk(tree):
                is_call = isinstance(node, ast.Call) and isinstance(node.func, ast.Name) and node.func.id == "set"
                if is_call or isinstance(node, (ast.Set, ast.SetComp)):
                    self.assertIn(id(node), allowed, (path, node.lineno))

    def test_nothing_calls_itself(self):
        # Terms are nested deeper than calls may be.
        for path in FILES:
            for node in nodes_of(path, ast.FunctionDef):
                called = [inner.func.id for inner in ast.walk(node)
                          if isinstance(inner, ast.Call) and isinstance(inner.func, ast.Name)]
                self.assertNotIn(node.name, called, path)
