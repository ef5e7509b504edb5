"""Checks those rules of the language that can be read off the code."""

import ast
import builtins
import re
import unittest
import warnings
from pathlib import Path

PACKAGE = Path(__file__).resolve().parent.parent / "unmovedways"
FILES = sorted(path for path in PACKAGE.iterdir() if path.name != "__pycache__")
BUILTINS = set(
    "len range enumerate zip min max sum abs sorted reversed int str bool list tuple dict isinstance "
    "ord repr any all divmod iter property ValueError IndexError TypeError KeyError".split()
)
BUILTIN_METHODS = set(
    "append clear copy count endswith extend find get index insert isalnum isalpha isdigit islower "
    "isspace isupper items join keys ljust lower lstrip partition pop remove replace reverse rfind "
    "rjust rpartition rsplit rstrip setdefault split splitlines startswith strip update upper values "
    "zfill".split()
)
BARRED_WORDS = set(
    "type typing enum Enum Flag Generic Protocol ABC namedtuple dataclass overload contextmanager "
    "abstractmethod register mro elements open input law id dir vars eval exec exit help os sys "
    "_record _outside _cold _wall".split()
)
LIBRARY = {
    "heapq": {"heappush", "heappop", "heapify", "heapreplace", "heappushpop"},
    "math": {"gcd", "lcm", "isqrt", "comb", "perm", "factorial"},
}
BARRED_NODES = (
    ast.AsyncFunctionDef, ast.Global, ast.Nonlocal, ast.Div, ast.Set, ast.SetComp, ast.Lambda,
    ast.Yield, ast.YieldFrom, ast.GeneratorExp, ast.With, ast.Import, ast.AnnAssign, ast.Match,
)
MODULE_NODES = (ast.Expr, ast.ImportFrom, ast.FunctionDef, ast.ClassDef, ast.Assign)
DOUBLE_UNDERSCORE = {"__init__", "__add__", "__sub__", "__getitem__", "__len__", "__iter__", "__call__"}


def texts():
    return {path.stem: path.read_text(encoding="ascii") for path in FILES}


def trees():
    return {name: ast.parse(text) for name, text in texts().items()}


def functions(tree):
    return [node for node in ast.walk(tree) if isinstance(node, ast.FunctionDef)]


def parameters(function):
    args = function.args
    return [arg.arg for arg in args.posonlyargs + args.args + args.kwonlyargs]


def local_names(function):
    stored = [
        node.id for node in ast.walk(function)
        if isinstance(node, ast.Name) and isinstance(node.ctx, ast.Store)
    ]
    return set(parameters(function) + stored)


def defined_names(tree):
    rows = [node.name for node in tree.body if isinstance(node, (ast.FunctionDef, ast.ClassDef))]
    assigned = [node for node in tree.body if isinstance(node, ast.Assign)]
    return rows + [target.id for node in assigned for target in node.targets]


CHANGES = {"append", "clear", "extend", "insert", "pop", "remove", "reverse", "setdefault", "update"}


def walked_names(loop):
    """The plain names and attributes that a loop walks itself, not as a new list."""
    if isinstance(loop, ast.Call) and isinstance(loop.func, ast.Name) and loop.func.id in ("enumerate", "zip"):
        return set().union(*[walked_names(part) for part in loop.args])
    if isinstance(loop, ast.Call) and isinstance(loop.func, ast.Attribute) and not loop.args:
        return walked_names(loop.func.value)
    if isinstance(loop, (ast.IfExp, ast.BoolOp)):
        return set().union(*[walked_names(part) for part in ast.iter_child_nodes(loop)])
    return {ast.unparse(loop)} if isinstance(loop, (ast.Name, ast.Attribute, ast.Subscript)) else set()


def same_names(function, names):
    """The names that an assignment of one name to another one makes the same."""
    found = set(names)
    for _ in range(3):
        for node in ast.walk(function):
            if isinstance(node, ast.Assign) and isinstance(node.value, (ast.Name, ast.Attribute)):
                row = {ast.unparse(node.value), *map(ast.unparse, node.targets)}
                found |= row if row & found else set()
    return found


def changed_names(rows):
    """The names of what the statements change in place or assign an item of."""
    found = set()
    for node in [inner for row in rows for inner in ast.walk(row)]:
        if isinstance(node, ast.Call) and isinstance(node.func, ast.Attribute) and node.func.attr in CHANGES:
            found.add(ast.unparse(node.func.value))
        if isinstance(node, ast.Subscript) and not isinstance(node.ctx, ast.Load):
            found.add(ast.unparse(node.value))
    return found


def imported_names(tree):
    return [alias.name for node in tree.body if isinstance(node, ast.ImportFrom) for alias in node.names]


class FilesTest(unittest.TestCase):
    def test_only_plain_python_files(self):
        for path in FILES:
            self.assertTrue(path.is_file() and re.fullmatch(r"[a-z_]+\.py", path.name), path.name)

    def test_sizes_and_signs(self):
        for name, text in texts().items():
            lines = text.split("\n")
            self.assertLessEqual(len(lines), 399, name)
            self.assertLessEqual(max(len(line) for line in lines), 120, name)
            self.assertEqual([sign for sign in text if not (" " <= sign <= "~" or sign == "\n")], [], name)

    def test_python_gives_no_warning(self):
        with warnings.catch_warnings():
            warnings.simplefilter("error")
            for name, text in texts().items():
                compile(text, name, "exec")

    def test_functions_are_small(self):
        for name, tree in trees().items():
            for function in functions(tree):
                self.assertLessEqual(function.end_lineno - function.lineno + 1, 40, (name, function.name))


class NamesTest(unittest.TestCase):
    def test_words_that_are_not_used(self):
        for name, tree in trees().items():
            found = [node.id for node in ast.walk(tree) if isinstance(node, ast.Name)]
            found += [node.attr for node in ast.walk(tree) if isinstance(node, ast.Attribute)]
            for function in functions(tree):
                found += [function.name, *parameters(function)]
            self.assertEqual(BARRED_WORDS.intersection(found), set(), name)

    def test_double_underscores(self):
        for name, tree in trees().items():
            found = {function.name for function in functions(tree) if function.name.startswith("__")}
            self.assertLessEqual(found, DOUBLE_UNDERSCORE, name)

    def test_builtins(self):
        every = set(dir(builtins))
        for name, tree in trees().items():
            used = {node.id for node in ast.walk(tree) if isinstance(node, ast.Name)}
            self.assertLessEqual(used & every, BUILTINS, name)
            self.assertEqual(every.intersection(defined_names(tree)), set(), name)
            for function in functions(tree):
                self.assertEqual(local_names(function) & every, set(), (name, function.name))

    def test_locals_do_not_hide_imports_or_classes(self):
        for name, tree in trees().items():
            outer = set(imported_names(tree))
            outer |= {node.name for node in tree.body if isinstance(node, ast.ClassDef)}
            for function in functions(tree):
                self.assertEqual(local_names(function) & outer, set(), (name, function.name))

    def test_one_binding_for_each_name(self):
        for name, tree in trees().items():
            bound = imported_names(tree) + defined_names(tree)
            self.assertEqual(len(bound), len(set(bound)), name)

    def test_methods_that_are_called(self):
        own = {function.name for tree in trees().values() for function in functions(tree)}
        for name, tree in trees().items():
            for node in ast.walk(tree):
                if isinstance(node, ast.Call) and isinstance(node.func, ast.Attribute):
                    self.assertIn(node.func.attr, own | BUILTIN_METHODS, name)


class StatementsTest(unittest.TestCase):
    def test_module_level(self):
        for name, tree in trees().items():
            for node in tree.body:
                self.assertIsInstance(node, MODULE_NODES, name)

    def test_barred_kinds(self):
        for name, tree in trees().items():
            for node in ast.walk(tree):
                self.assertNotIsInstance(node, BARRED_NODES, name)

    def test_decorators(self):
        for name, tree in trees().items():
            for function in functions(tree):
                self.assertIn([ast.unparse(row) for row in function.decorator_list], ([], ["property"]), name)

    def test_no_own_error_is_hidden(self):
        for name, tree in trees().items():
            for node in ast.walk(tree):
                if isinstance(node, ast.ExceptHandler):
                    caught = node.type.elts if isinstance(node.type, ast.Tuple) else [node.type]
                    for kind in caught:
                        self.assertIn(kind.id, imported_names(tree), name)


class LoopsTest(unittest.TestCase):
    def changed_in_a_loop(self, tree):
        """What some loop of the tree walks and changes, also by another name."""
        found = set()
        for function in functions(tree):
            for loop in ast.walk(function):
                if isinstance(loop, ast.For):
                    found |= same_names(function, walked_names(loop.iter)) & changed_names(loop.body)
        return found

    def test_what_a_loop_walks_is_not_changed_in_it(self):
        for name, tree in trees().items():
            self.assertEqual(self.changed_in_a_loop(tree), set(), name)

    def test_the_check_itself(self):
        head = "def walk(rows, self):\n    more = []\n    rows = self.rows\n"
        for walked, change, right in (
            ("rows", "rows.append(row)", False), ("rows", "more.append(row)", True), ("rows", "rows[0] = row", False),
            ("list(rows)", "rows.append(row)", True), ("enumerate(rows)", "del rows[0]", False),
            ("self.rows", "rows.pop()", False), ("rows if more else []", "self.rows.clear()", False),
            ("rows.items()", "rows[1] = row", False), ("zip(more, rows)", "more.extend(rows)", False),
        ):
            tree = ast.parse(f"{head}    for row in {walked}:\n        {change}\n")
            self.assertEqual(self.changed_in_a_loop(tree) == set(), right, (walked, change))


class ImportsTest(unittest.TestCase):
    def imports(self, tree):
        return [node for node in tree.body if isinstance(node, ast.ImportFrom)]

    def sources(self, tree):
        return [node for node in self.imports(tree) if node.module not in LIBRARY]

    def test_imports_from_the_library(self):
        for name, tree in trees().items():
            for node in self.imports(tree):
                if node.module in LIBRARY:
                    self.assertEqual({alias.asname for alias in node.names}, {None}, name)
                    self.assertLessEqual({alias.name for alias in node.names}, LIBRARY[node.module], name)

    def test_library_names_are_only_called(self):
        for name, tree in trees().items():
            borrowed = {
                alias.name for node in self.imports(tree) if node.module in LIBRARY for alias in node.names
            }
            called = [node.func for node in ast.walk(tree) if isinstance(node, ast.Call) and not node.keywords]
            for node in ast.walk(tree):
                if isinstance(node, ast.Name) and node.id in borrowed:
                    self.assertIn(node, called, name)

    def test_imports_name_the_defining_file(self):
        every = trees()
        for name, tree in every.items():
            for node in self.sources(tree):
                folder, source = node.module.split(".")
                self.assertEqual([folder, node.level], ["unmovedways", 0], name)
                defined = defined_names(every[source])
                for alias in node.names:
                    self.assertIn(alias.name, defined, name)
                    self.assertIsNone(alias.asname, name)

    def test_imports_are_used(self):
        for name, tree in trees().items():
            used = {node.id for node in ast.walk(tree) if isinstance(node, ast.Name)}
            self.assertLessEqual(set(imported_names(tree)), used, name)

    def test_no_two_files_import_from_each_other(self):
        wanted = {
            name: {node.module.split(".")[1] for node in self.sources(tree)}
            for name, tree in trees().items()
        }
        while wanted:
            free = [name for name, needs in wanted.items() if not needs & set(wanted)]
            self.assertTrue(free, wanted)
            for name in free:
                del wanted[name]


if __name__ == "__main__":
    unittest.main()
