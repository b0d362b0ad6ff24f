"""Tests of those rules of LANGUAGE.md that can be seen from the code alone."""

import ast
import pathlib
import unittest

PACKAGE = pathlib.Path(__file__).resolve().parent.parent / "kindswap"
FILES = sorted(PACKAGE.glob("*.py"))
LIBRARY = {
    "heapq": {"heappush", "heappop", "heapify", "heapreplace", "heappushpop"},
    "math": {"gcd", "lcm", "isqrt", "comb", "perm", "factorial"},
    "itertools": {"product", "combinations", "permutations", "chain", "accumulate", "pairwise",
                  "islice", "zip_longest"},
    "collections": {"defaultdict", "deque"},
}
BUILTINS = set(
    "len range enumerate zip min max sum abs sorted reversed int str bool bytes list tuple dict set"
    " isinstance ord repr any all divmod pow map iter next type getattr hasattr setattr super"
    " Exception ValueError TypeError KeyError IndexError LookupError ZeroDivisionError"
    " ArithmeticError OverflowError RuntimeError NotImplementedError AttributeError".split())
METHODS = set(
    "append clear copy count endswith extend find get index insert isalnum isalpha isdigit islower"
    " isspace isupper items join keys ljust lower lstrip partition pop remove replace reverse rfind"
    " rjust rpartition rsplit rstrip setdefault split splitlines startswith strip update upper"
    " values zfill bit_length title capitalize swapcase casefold center expandtabs removeprefix"
    " removesuffix rindex isascii isdecimal isnumeric istitle isidentifier isprintable sort"
    " add discard __init__".split())
INTERFACE = {
    "errors": ["SwapError", "NoText", "NoKind", "NoForm", "NoSizes", "TooMany", "NoDivisor",
               "NoWorth", "NoTerm", "Unlike", "NoLibrary", "NoName"],
    "kinds": ["is_kind", "kind_text", "read_kind"],
    "forms": ["form", "kind_of", "alike"],
    "counts": ["many", "rest", "apart", "apart_fault"],
    "worths": ["worths", "is_worth"],
    "terms": ["term_kind", "done"],
    "plains": ["plain", "same"],
    "turners": ["turner", "turn_fault"],
    "libraries": ["search", "search_fault"],
}


class TestLanguage(unittest.TestCase):
    def test_l1_the_folder_contains_nothing_but_its_files(self):
        names = {path.name for path in PACKAGE.iterdir()} - {"__pycache__"}
        self.assertEqual(names, {path.name for path in FILES})
        self.assertIn("__init__.py", names)

    def test_l10_l14_sizes_and_characters(self):
        for path in FILES:
            text = path.read_text(encoding="utf-8")
            rows = text.splitlines()
            self.assertLess(len(rows), 400, path.name)
            for at, row in enumerate(rows, 1):
                with self.subTest(file=path.name, row=at):
                    self.assertLessEqual(len(row), 120)
                    self.assertTrue(all(" " <= sign <= "~" for sign in row))
            for node in ast.walk(ast.parse(text)):
                if isinstance(node, ast.FunctionDef):
                    self.assertLessEqual(node.end_lineno - node.lineno + 1, 40, node.name)

    def test_l2_l16_imports(self):
        found = {}
        for path in FILES:
            found[path.stem] = []
            for node in ast.walk(ast.parse(path.read_text(encoding="utf-8"))):
                self.assertNotIsInstance(node, ast.Import)
                if not isinstance(node, ast.ImportFrom):
                    continue
                self.assertEqual(node.level, 0)
                names = {alias.name for alias in node.names}
                if node.module in LIBRARY:
                    self.assertLessEqual(names, LIBRARY[node.module])
                else:
                    package, file_name = node.module.split(".")
                    self.assertEqual(package, "kindswap")
                    self.assertLessEqual(names, defined_names(PACKAGE / (file_name + ".py")))
                    found[path.stem].append(file_name)
        while found:
            free = [name for name in found if not set(found[name]) & set(found)]
            self.assertTrue(free, "files import from each other")
            for name in free:
                del found[name]

    def test_l16_the_interface_is_defined_in_its_files(self):
        for file_name, names in INTERFACE.items():
            self.assertLessEqual(set(names), defined_names(PACKAGE / (file_name + ".py")))

    def test_l3_l4_l6_l7_what_code_is_made_of(self):
        barred = (ast.AsyncFunctionDef, ast.Await, ast.Global, ast.Div, ast.MatMult, ast.AsyncFor,
                  ast.AsyncWith)
        for path in FILES:
            tree = ast.parse(path.read_text(encoding="utf-8"))
            for node in tree.body:
                self.assertIsInstance(node, (ast.Expr, ast.ImportFrom, ast.FunctionDef,
                                             ast.ClassDef, ast.Assign))
            for node in ast.walk(tree):
                with self.subTest(file=path.name, row=getattr(node, "lineno", None)):
                    self.assertNotIsInstance(node, barred)
                    if isinstance(node, ast.Constant):
                        self.assertNotIsInstance(node.value, (float, complex))
                        if isinstance(node.value, str):
                            self.assertNotIn("%", node.value)

    def test_l8_l25_builtins_and_methods(self):
        methods = set(METHODS)
        for path in FILES:
            for node in ast.walk(ast.parse(path.read_text(encoding="utf-8"))):
                if isinstance(node, ast.ClassDef):
                    methods |= {one.name for one in node.body if isinstance(one, ast.FunctionDef)}
        for path in FILES:
            tree = ast.parse(path.read_text(encoding="utf-8"))
            bound = bound_names(tree)
            for node in ast.walk(tree):
                with self.subTest(file=path.name, row=getattr(node, "lineno", None)):
                    if isinstance(node, ast.Name):
                        self.assertIn(node.id, bound | BUILTINS)
                    if isinstance(node, ast.Call) and isinstance(node.func, ast.Attribute):
                        self.assertIn(node.func.attr, methods)
            self.assertFalse(bound & BUILTINS)

    def test_l15_l18_l26_no_name_means_two_things(self):
        for path in FILES:
            tree = ast.parse(path.read_text(encoding="utf-8"))
            taken = {node.name for node in tree.body if isinstance(node, ast.ClassDef)}
            for node in tree.body:
                if isinstance(node, ast.ImportFrom):
                    taken |= {alias.name for alias in node.names}
            for node in ast.walk(tree):
                if isinstance(node, ast.FunctionDef):
                    self.assertFalse(bound_names(node) & taken, (path.name, node.name))
                if isinstance(node, ast.ClassDef):
                    own = {one.name for one in node.body if isinstance(one, ast.FunctionDef)}
                    kept = {one.attr for one in ast.walk(node) if isinstance(one, ast.Attribute)
                            and isinstance(one.ctx, ast.Store)}
                    self.assertFalse(own & kept)
                    self.assertFalse((own | kept) & (METHODS - {"__init__"}))


def defined_names(path):
    tree = ast.parse(path.read_text(encoding="utf-8"))
    found = {node.name for node in tree.body if isinstance(node, (ast.FunctionDef, ast.ClassDef))}
    for node in tree.body:
        if isinstance(node, ast.Assign):
            found |= {target.id for target in node.targets}
    return found


def bound_names(tree):
    found = set()
    for node in ast.walk(tree):
        if isinstance(node, ast.Name) and isinstance(node.ctx, ast.Store):
            found.add(node.id)
        elif isinstance(node, ast.arg):
            found.add(node.arg)
        elif isinstance(node, (ast.FunctionDef, ast.ClassDef)):
            found.add(node.name)
        elif isinstance(node, ast.ImportFrom):
            found |= {alias.name for alias in node.names}
    return found


if __name__ == "__main__":
    unittest.main()
