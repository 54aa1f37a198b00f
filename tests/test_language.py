"""Those rules of the language of the package that a look at its files can check."""

import ast
import pathlib
import re
import sys
import unittest

ROOT = pathlib.Path(__file__).resolve().parent.parent
PACKAGE = ROOT / "ledgertrace"
FILES = sorted(path for path in PACKAGE.rglob("*") if "__pycache__" not in path.parts and path.is_file())

LIBRARY = {
    "heapq": {"heappush", "heappop", "heapify", "heapreplace", "heappushpop"},
    "math": {"gcd", "lcm", "isqrt", "comb", "perm", "factorial"},
    "itertools": {"product", "combinations", "permutations", "chain", "accumulate", "pairwise", "islice",
                  "zip_longest"},
    "collections": {"defaultdict"},
}
METHODS = set("""
    append clear copy count endswith extend find get index insert isalnum isalpha isdigit islower isspace isupper
    items join keys ljust lower lstrip partition pop remove replace reverse rfind rjust rpartition rsplit rstrip
    setdefault split splitlines startswith strip update upper values zfill bit_length title capitalize swapcase
    casefold center expandtabs removeprefix removesuffix rindex isascii isdecimal isnumeric istitle isidentifier
    isprintable translate sort add discard from_iterable
""".split())
BARRED = set("""
    typing typing_extensions enum Enum IntEnum StrEnum Flag IntFlag Generic Protocol ABC ABCMeta namedtuple
    NamedTuple TypedDict TYPE_CHECKING abstractmethod dataclass overload contextmanager type
""".split())
BUILTINS = set("""
    len range enumerate zip min max sum abs sorted reversed int str bool bytes list tuple dict set isinstance ord
    repr any all divmod pow map iter next super Exception ValueError TypeError KeyError IndexError LookupError
    ZeroDivisionError StopIteration NotImplemented
""".split())
NO_NODES = (
    ast.Global, ast.AsyncFunctionDef, ast.AsyncFor, ast.AsyncWith, ast.Await, ast.Div, ast.Import, ast.MatMult)


class Language(unittest.TestCase):

    def setUp(self):
        self.texts = {path: path.read_text(encoding="utf-8") for path in FILES}
        self.trees = {path: ast.parse(text) for path, text in self.texts.items()}

    def nodes(self):
        for path, tree in self.trees.items():
            for node in ast.walk(tree):
                yield path, node

    def test_the_folder_holds_files_of_the_language_alone(self):
        self.assertIn(PACKAGE / "__init__.py", FILES)
        for path in FILES:
            self.assertRegex(path.name, r"\A(__init__|__main__|[a-z][a-z0-9_]*)\.py\Z")
            self.assertNotRegex(path.name, r"\A(law_|tests?|testing|test_|site|conftest)")
        self.assertNotIn("ledgertrace", sys.stdlib_module_names)

    def test_sizes_and_characters(self):
        for path, text in self.texts.items():
            lines = text.split("\n")
            self.assertLessEqual(len(lines), 400, path)
            for line in lines:
                self.assertLessEqual(len(line), 120, (path, line))
            self.assertEqual(set(re.findall("[^ -~\n]", text)), set(), path)
            self.assertEqual(set(re.findall("_wall|_WallAttr", text)), set(), path)
        for path, node in self.nodes():
            if isinstance(node, ast.FunctionDef):
                self.assertLessEqual(node.end_lineno - node.lineno + 1, 40, (path, node.name))

    def test_imports_name_the_file_and_never_go_round(self):
        told = {}
        for path, node in self.nodes():
            if isinstance(node, ast.ImportFrom):
                self.assertEqual(node.level, 0)
                for alias in node.names:
                    self.assertIsNone(alias.asname)
                    if node.module in LIBRARY:
                        self.assertIn(alias.name, LIBRARY[node.module], path)
                        continue
                    self.assertRegex(node.module, r"\Aledgertrace\.[a-z_0-9]+\Z")
                    target = PACKAGE / (node.module.split(".")[1] + ".py")
                    told.setdefault(path, set()).add(target)
                    self.assertIn(alias.name, self.bound(target), (path, alias.name))
        while told:
            last = [path for path in told if not told[path] & set(told)]
            self.assertTrue(last, "imports that go round")
            told = {path: targets for path, targets in told.items() if path not in last}

    def bound(self, path):
        """The names that a file itself defines at module level."""
        names = set()
        for node in self.trees[path].body:
            if isinstance(node, (ast.FunctionDef, ast.ClassDef)):
                names.add(node.name)
            if isinstance(node, ast.Assign):
                names.update(target.id for target in node.targets)
        return names

    def test_module_level(self):
        for path, tree in self.trees.items():
            for at, node in enumerate(tree.body):
                if at == 0 and isinstance(node, ast.Expr):
                    continue
                self.assertIsInstance(node, (ast.ImportFrom, ast.FunctionDef, ast.ClassDef, ast.Assign), path)

    def test_nodes_names_and_methods(self):
        for path, node in self.nodes():
            where = (path, getattr(node, "lineno", 0))
            self.assertNotIsInstance(node, NO_NODES, where)
            if isinstance(node, ast.Constant):
                self.assertNotIsInstance(node.value, (float, complex), where)
            if isinstance(node, (ast.FunctionDef, ast.ClassDef)):
                self.assertNotIn(node.name, BUILTINS, where)
            if isinstance(node, ast.Name) and not isinstance(node.ctx, ast.Load) or isinstance(node, ast.arg):
                name = node.id if isinstance(node, ast.Name) else node.arg
                self.assertNotIn(name, dir(__builtins__) if not isinstance(__builtins__, dict) else __builtins__, where)
                self.assertRegex(name, r"\A_?([A-Za-z][A-Za-z0-9_]*)?\Z", where)
            if isinstance(node, ast.Call) and isinstance(node.func, ast.Attribute):
                self.assertIn(node.func.attr, METHODS | self.own_methods(), where)
            if isinstance(node, ast.Name) and isinstance(node.ctx, ast.Load):
                self.assertNotIn(node.id, {"_", "chr", "print", "open", "eval", "exec", "hash", "id", "type"}, where)

    def own_methods(self):
        return {
            each.name for tree in self.trees.values() for node in tree.body if isinstance(node, ast.ClassDef)
            for each in node.body if isinstance(each, ast.FunctionDef)}

    def test_strings_and_exponents(self):
        for path, node in self.nodes():
            where = (path, getattr(node, "lineno", 0))
            if isinstance(node, ast.Constant) and isinstance(node.value, str):
                self.assertNotIn("%", node.value, where)
            if isinstance(node, ast.BinOp) and isinstance(node.op, ast.Pow):
                self.assertIsInstance(node.right, ast.Constant, where)
                self.assertTrue(0 <= node.right.value <= 64, where)
            if isinstance(node, (ast.Name, ast.Attribute)):
                word = node.id if isinstance(node, ast.Name) else node.attr
                self.assertNotIn(word, BARRED, where)


if __name__ == "__main__":
    unittest.main()
