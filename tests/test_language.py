"""Checks the rules of the language that a look at each file can tell: a part of them, not all."""

import ast
import pathlib
import unittest

FOLDER = pathlib.Path(__file__).resolve().parent.parent / "narrowkeys"
LIBRARY = {"heapq", "math", "itertools", "collections"}
BUILTINS = set(
    "len range enumerate zip min max sum abs sorted reversed int str bool list tuple dict set isinstance ord repr "
    "any all divmod pow map iter next getattr hasattr setattr super Exception ValueError TypeError KeyError "
    "IndexError LookupError ZeroDivisionError RuntimeError NotImplementedError StopIteration NotImplemented "
    "property staticmethod classmethod print".split()
)
SPECIAL = set(
    "__init__ __eq__ __repr__ __str__ __len__ __enter__ __exit__ __call__ __iter__ __lt__ __le__ __gt__ __ge__ "
    "__ne__ __add__ __sub__ __mul__ __and__ __or__ __xor__ __contains__ __getitem__ __setitem__ __bool__".split()
)
BARRED_NAMES = set(
    "register mro elements open input law version_info with_traceback add_note attrgetter breakpoint builtins "
    "compile copyright credits delattr dir eval exec exit gc globals help id importlib license locals "
    "methodcaller os quit type vars sys chr frozenset bytes object hash format filter round".split()
)
METHODS = set(
    "append clear copy count endswith extend find get index insert isalnum isalpha isdigit islower isspace isupper "
    "items join keys ljust lower lstrip partition pop remove replace reverse rfind rjust rpartition rsplit rstrip "
    "setdefault isascii split splitlines startswith strip update upper values zfill bit_length add discard".split()
)
BARRED_NODES = (
    ast.Global, ast.AsyncFunctionDef, ast.Await, ast.Div, ast.MatMult, ast.AnnAssign, ast.TypeIgnore,
)


def parsed():
    """The name, the text and the tree of each file."""
    files = sorted(FOLDER.glob("*.py"))
    return [(path.name, path.read_text(encoding="utf-8"), ast.parse(path.read_text("utf-8"))) for path in files]


def own_names():
    """The names of all functions, methods and classes of the package."""
    kinds = (ast.FunctionDef, ast.ClassDef)
    return {node.name for _, _, tree in parsed() for node in ast.walk(tree) if isinstance(node, kinds)}


def bound_names(tree):
    for node in ast.walk(tree):
        if isinstance(node, ast.Name) and isinstance(node.ctx, ast.Store):
            yield node.id
        elif isinstance(node, ast.arg):
            yield node.arg
        elif isinstance(node, (ast.FunctionDef, ast.ClassDef)) and node.name not in SPECIAL:
            yield node.name


class LanguageTest(unittest.TestCase):
    def test_the_folder_holds_files_alone(self):
        found = [path.name for path in FOLDER.iterdir() if path.name != "__pycache__"]
        self.assertEqual([], [name for name in found if not name.endswith(".py")])
        self.assertIn("__init__.py", found)

    def test_sizes_and_characters(self):
        for name, text, tree in parsed():
            rows = text.split("\n")
            self.assertLessEqual(len(rows), 400, name)
            self.assertLessEqual(max(len(row) for row in rows), 120, name)
            self.assertTrue(all(sign == "\n" or " " <= sign <= "~" for sign in text), name)
            for node in ast.walk(tree):
                if isinstance(node, ast.FunctionDef):
                    self.assertLessEqual(node.end_lineno - node.lineno + 1, 40, (name, node.name))

    def test_imports(self):
        for name, _, tree in parsed():
            for node in ast.walk(tree):
                self.assertNotIsInstance(node, ast.Import, name)
                if isinstance(node, ast.ImportFrom):
                    self.assertEqual(0, node.level, name)
                    self.assertIn(node, tree.body, name)
                    self.assertTrue(node.module in LIBRARY or node.module.startswith("narrowkeys."), name)
                    self.assertNotIn("*", [alias.name for alias in node.names])

    def test_imports_name_the_file_that_defines(self):
        defined = {f"narrowkeys.{name[:-3]}": set(bound_names(tree)) for name, _, tree in parsed()}
        for name, _, tree in parsed():
            for node in tree.body:
                if isinstance(node, ast.ImportFrom) and node.module in defined:
                    for alias in node.names:
                        self.assertIn(alias.name, defined[node.module], name)

    def test_no_name_is_bound_anew(self):
        for name, _, tree in parsed():
            outer = [alias.name for node in tree.body if isinstance(node, ast.ImportFrom) for alias in node.names]
            outer.extend(node.name for node in tree.body if isinstance(node, ast.ClassDef))
            for node in ast.walk(tree):
                if isinstance(node, ast.FunctionDef):
                    self.assertEqual([], [one for one in bound_names(node) if one in outer], (name, node.name))
            self.assertEqual([], [one for one in bound_names(tree) if one in BUILTINS | BARRED_NAMES], name)

    def test_builtins_and_methods(self):
        own = own_names()
        for name, _, tree in parsed():
            told = {alias.name for node in ast.walk(tree) if isinstance(node, ast.ImportFrom) for alias in node.names}
            known = BUILTINS | own | told | set(bound_names(tree))
            for node in ast.walk(tree):
                if isinstance(node, ast.Name):
                    self.assertIn(node.id, known, name)
                if isinstance(node, ast.Call) and isinstance(node.func, ast.Attribute):
                    self.assertIn(node.func.attr, METHODS | own | {"__init__"}, name)

    def test_statements_and_expressions(self):
        for name, text, tree in parsed():
            for node in ast.walk(tree):
                self.assertNotIsInstance(node, BARRED_NODES, name)
                if isinstance(node, ast.Constant):
                    self.assertNotIsInstance(node.value, (float, complex), name)
                    self.assertFalse(isinstance(node.value, str) and "%" in node.value, name)
                if isinstance(node, ast.FunctionDef) and node.name.startswith("__"):
                    self.assertIn(node.name, SPECIAL, name)
                # A package that compares hands lists, no generators, to all, any, sum and their like.
                self.assertNotIsInstance(node, ast.GeneratorExp, name)
            self.assertNotIn(".sort(", text, name)


if __name__ == "__main__":
    unittest.main()
