"""Tests that the files of the package keep to the subset of the language they are written in."""

import ast
import builtins
import pathlib
import warnings

from tests.helper import Case

ROOT = pathlib.Path(__file__).resolve().parent.parent
PACKAGE = ROOT / "hoursheets"

BUILTINS = set(
    "len range enumerate zip min max sum abs sorted reversed int str bool list tuple dict set isinstance ord repr any"
    " all divmod map iter next Exception ValueError TypeError KeyError IndexError".split()
)
LIBRARY = {
    "math": {"gcd", "lcm", "isqrt", "comb", "perm", "factorial"},
    "itertools": {"product", "combinations", "permutations", "chain", "accumulate", "pairwise", "islice"},
    "heapq": {"heappush", "heappop", "heapify"},
    "collections": {"defaultdict", "deque"},
}
METHODS = set(
    "append clear copy count endswith extend find get index insert isalnum isalpha isdigit islower isspace isupper"
    " items join keys ljust lower lstrip partition pop remove replace reverse rfind rjust rpartition rsplit rstrip"
    " setdefault split splitlines startswith strip update upper values zfill bit_length sort add discard".split()
)
BARRED_NAMES = set(
    "register mro elements open input law version_info with_traceback add_note breakpoint builtins compile copyright"
    " credits delattr dir eval exec exit gc getattr globals hasattr help id importlib license locals os quit setattr"
    " super type vars sys".split()
)


def files():
    return sorted(PACKAGE.glob("*.py"))


def trees():
    return {path.stem: ast.parse(path.read_text()) for path in files()}


def bound_names(tree):
    """All names that a tree binds: functions, classes, parameters and variables, not attributes."""
    found = set()
    for node in ast.walk(tree):
        if isinstance(node, (ast.FunctionDef, ast.ClassDef)):
            found.add(node.name)
        elif isinstance(node, ast.arg):
            found.add(node.arg)
        elif isinstance(node, ast.Name) and not isinstance(node.ctx, ast.Load):
            found.add(node.id)
    return found


def imported_names(tree):
    return {name.name for node in tree.body if isinstance(node, ast.ImportFrom) for name in node.names}


class Language(Case):
    def test_the_folder_holds_plain_files(self):
        for path in PACKAGE.iterdir():
            if path.name != "__pycache__":
                self.assertEqual((path.suffix, path.name), (".py", path.name.lower()))
        self.assertTrue((PACKAGE / "__init__.py").is_file())

    def test_characters_and_sizes(self):
        for path in files():
            text = path.read_text()
            self.assertTrue(all(sign == "\n" or " " <= sign <= "~" for sign in text), path)
            lines = text.split("\n")
            self.assertLessEqual(len(lines), 399, path)
            self.assertLessEqual(max(len(line) for line in lines), 120, path)

    def test_functions_are_short(self):
        for name, tree in trees().items():
            for node in ast.walk(tree):
                if isinstance(node, ast.FunctionDef):
                    self.assertLessEqual(node.end_lineno - node.lineno + 1, 40, (name, node.name))
                    self.assertEqual(node.decorator_list, [], (name, node.name))

    def test_nothing_warns(self):
        for path in files():
            with warnings.catch_warnings():
                warnings.simplefilter("error")
                compile(path.read_text(), str(path), "exec")

    def test_module_level(self):
        kinds = (ast.ImportFrom, ast.FunctionDef, ast.ClassDef, ast.Assign)
        for name, tree in trees().items():
            for at, node in enumerate(tree.body):
                docstring = at == 0 and isinstance(node, ast.Expr) and isinstance(node.value, ast.Constant)
                self.assertTrue(docstring or isinstance(node, kinds), (name, ast.dump(node)))
                if isinstance(node, ast.Assign):
                    self.assertTrue(len(node.targets) == 1 and isinstance(node.targets[0], ast.Name))

    def test_imports(self):
        found = trees()
        for name, tree in found.items():
            for node in ast.walk(tree):
                self.assertNotIsInstance(node, ast.Import, name)
                if not isinstance(node, ast.ImportFrom):
                    continue
                self.assertEqual((node.level, [part.asname for part in node.names if part.asname]), (0, []))
                wanted = {part.name for part in node.names}
                if node.module in LIBRARY:
                    self.assertLessEqual(wanted, LIBRARY[node.module], name)
                    continue
                package, module = node.module.split(".")
                self.assertEqual(package, "hoursheets")
                own = {part.name for part in found[module].body if isinstance(part, (ast.FunctionDef, ast.ClassDef))}
                own |= {part.targets[0].id for part in found[module].body if isinstance(part, ast.Assign)}
                self.assertLessEqual(wanted, own, (name, module))

    def test_no_import_goes_in_a_circle(self):
        needs = {}
        for name, tree in trees().items():
            modules = [node.module for node in tree.body if isinstance(node, ast.ImportFrom)]
            needs[name] = {module.split(".")[1] for module in modules if module.startswith("hoursheets.")}
        while needs:
            ready = [name for name in needs if not needs[name] & set(needs)]
            self.assertTrue(ready, needs)
            for name in ready:
                del needs[name]

    def test_all_imports_are_used(self):
        for name, tree in trees().items():
            used = {node.id for node in ast.walk(tree) if isinstance(node, ast.Name)}
            self.assertLessEqual(imported_names(tree), used, name)

    def test_names(self):
        for name, tree in trees().items():
            bound = bound_names(tree) - {"__init__"}
            self.assertEqual({word for word in bound if hasattr(builtins, word) or word in BARRED_NAMES}, set(), name)
            self.assertEqual(bound & imported_names(tree), set(), name)
            self.assertEqual({word for word in bound if word.startswith("__")}, set(), name)

    def test_builtins_and_methods(self):
        found = trees()
        own = {node.name for tree in found.values() for node in ast.walk(tree) if isinstance(node, ast.FunctionDef)}
        for name, tree in found.items():
            for node in ast.walk(tree):
                if isinstance(node, ast.Name) and hasattr(builtins, node.id):
                    self.assertIn(node.id, BUILTINS, name)
                if isinstance(node, ast.Call) and isinstance(node.func, ast.Attribute):
                    self.assertIn(node.func.attr, METHODS | own, name)

    def test_values_and_statements(self):
        barred = (ast.AsyncFunctionDef, ast.AsyncFor, ast.AsyncWith, ast.Await, ast.Global, ast.Div)
        for name, tree in trees().items():
            for node in ast.walk(tree):
                self.assertNotIsInstance(node, barred, name)
                if isinstance(node, ast.ExceptHandler):
                    self.assertIsNotNone(node.type, name)
                if isinstance(node, ast.Constant):
                    self.assertNotIsInstance(node.value, (float, complex, bytes), name)

    def test_no_docstring_is_left_out(self):
        for name, tree in trees().items():
            self.assertTrue(ast.get_docstring(tree), name)
            for node in tree.body:
                if isinstance(node, (ast.FunctionDef, ast.ClassDef)):
                    self.assertTrue(ast.get_docstring(node), (name, node.name))
                for part in node.body if isinstance(node, ast.ClassDef) else []:
                    if isinstance(part, ast.FunctionDef) and part.name != "__init__":
                        self.assertTrue(ast.get_docstring(part), (name, part.name))

    def test_classes(self):
        for name, tree in trees().items():
            for node in ast.walk(tree):
                if not isinstance(node, ast.ClassDef):
                    continue
                methods = [part.name for part in node.body if isinstance(part, ast.FunctionDef)]
                self.assertEqual(len(methods), len(set(methods)), (name, node.name))
                kept = {
                    part.attr for part in ast.walk(node)
                    if isinstance(part, ast.Attribute) and isinstance(part.ctx, ast.Store)
                }
                self.assertEqual(kept & set(methods), set(), (name, node.name))
                self.assertEqual({word for word in methods if word.startswith("__")} - {"__init__"}, set())

    def test_no_set_is_added_to(self):
        # The houses have a method of that name, so it is not called on sets.
        for name, tree in trees().items():
            called = [node.func for node in ast.walk(tree) if isinstance(node, ast.Call)]
            names = {part.attr for part in called if isinstance(part, ast.Attribute)}
            self.assertEqual(names & {"add", "discard"}, set(), name)

    def test_the_sign_of_remainders_stands_in_no_string(self):
        for name, tree in trees().items():
            for node in ast.walk(tree):
                if isinstance(node, ast.Constant) and isinstance(node.value, str):
                    self.assertNotIn(chr(37), node.value, name)
