"""Those rules of the language of the program that can be seen in each file of the package by itself."""

import ast
import builtins
import pathlib
import unittest
import warnings

FOLDER = pathlib.Path(__file__).resolve().parent.parent / "repeatnets"
BUILTINS = set(dir(builtins)) - {"_"}
LIBRARY = {"heapq": {"heappush", "heappop", "heapify", "heapreplace", "heappushpop"},
           "math": {"gcd", "lcm", "isqrt", "comb", "perm", "factorial"},
           "itertools": {"product", "combinations", "permutations"}}
ALLOWED = set("""len range enumerate zip min max sum abs sorted reversed int str bool list tuple dict set isinstance ord
    repr any all divmod iter next map super Exception ValueError TypeError KeyError IndexError LookupError
    ZeroDivisionError ArithmeticError OverflowError RuntimeError NotImplementedError AttributeError StopIteration
    NotImplemented""".split())
BARRED = set("""register mro elements open input law version_info with_traceback add_note attrgetter breakpoint builtins
    compile copyright credits delattr dir eval exec exit gc getattr globals hasattr help id importlib license locals
    methodcaller os quit setattr type vars sys typing typing_extensions enum Enum IntEnum StrEnum Flag IntFlag Generic
    Protocol ABC ABCMeta namedtuple NamedTuple TypedDict TYPE_CHECKING abstractmethod""".split())
BARRED_STATEMENTS = (ast.Global, ast.AsyncFunctionDef, ast.AsyncFor, ast.AsyncWith, ast.Await, ast.GeneratorExp,
                     ast.Import, ast.Div, ast.Yield, ast.YieldFrom, ast.Lambda, ast.ExceptHandler, ast.SetComp,
                     ast.Set)
METHODS = set("""append clear copy count endswith extend find get index insert isalnum isalpha isdigit islower isspace
    isupper items join keys ljust lower lstrip partition pop remove replace reverse rfind rjust rpartition rsplit rstrip
    setdefault split splitlines startswith strip update upper values zfill bit_length removeprefix""".split())


def files():
    return sorted(path for path in FOLDER.rglob("*") if path.is_file() and path.suffix != ".pyc")


def bound_names(tree):
    """All names that are bound in a file, with whether they are methods or attributes."""
    for node in ast.walk(tree):
        if isinstance(node, ast.ClassDef):
            yield node.name
        elif isinstance(node, ast.FunctionDef):
            yield node.name
        elif isinstance(node, ast.arg):
            yield node.arg
        elif isinstance(node, ast.Name) and isinstance(node.ctx, ast.Store):
            yield node.id
        elif isinstance(node, ast.alias):
            yield node.asname or node.name


class TestLanguage(unittest.TestCase):
    def trees(self):
        for path in files():
            yield path.name, ast.parse(path.read_text(encoding="utf-8"))

    def test_folder(self):
        for path in files():
            self.assertEqual(path.suffix, ".py", path)
            self.assertEqual(path.name, path.name.lower())
        self.assertTrue((FOLDER / "__init__.py").is_file())

    def test_sizes_and_signs(self):
        for path in files():
            text = path.read_text(encoding="utf-8")
            self.assertLessEqual(len(text.splitlines()), 399, path)
            self.assertTrue(all(sign == "\n" or " " <= sign <= "~" for sign in text), path)
            for line in text.splitlines():
                self.assertLessEqual(len(line), 120, path)
        for name, tree in self.trees():
            for node in ast.walk(tree):
                if isinstance(node, ast.FunctionDef):
                    self.assertLessEqual(node.end_lineno - node.lineno + 1, 40, (name, node.name))

    def test_no_warnings(self):
        with warnings.catch_warnings():
            warnings.simplefilter("error")
            for path in files():
                compile(path.read_text(encoding="utf-8"), str(path), "exec")

    def test_module_level(self):
        for name, tree in self.trees():
            for at, node in enumerate(tree.body):
                if at == 0 and isinstance(node, ast.Expr):
                    continue
                self.assertIsInstance(node, (ast.ImportFrom, ast.FunctionDef, ast.ClassDef, ast.Assign), name)

    def test_imports(self):
        for name, tree in self.trees():
            for node in ast.walk(tree):
                if isinstance(node, ast.ImportFrom):
                    self.assertEqual(node.level, 0, name)
                    if node.module in LIBRARY:
                        self.assertLessEqual({alias.name for alias in node.names}, LIBRARY[node.module], name)
                        continue
                    self.assertTrue(node.module.startswith("repeatnets."), name)
                    source = ast.parse((FOLDER / (node.module.split(".")[1] + ".py")).read_text(encoding="utf-8"))
                    defined = [one.name for one in source.body if isinstance(one, (ast.FunctionDef, ast.ClassDef))]
                    for alias in node.names:
                        self.assertTrue(alias.name in defined or alias.name.isupper(), (name, alias.name))
                        self.assertIsNone(alias.asname)

    def test_no_two_files_import_each_other(self):
        needs = {}
        for name, tree in self.trees():
            needs[name[:-3]] = [node.module.split(".")[-1] for node in ast.walk(tree) if isinstance(node, ast.ImportFrom)]
        while needs:
            free = [name for name in needs if not any(other in needs for other in needs[name])]
            self.assertTrue(free, needs)
            for name in free:
                del needs[name]

    def test_statements_and_expressions(self):
        for name, tree in self.trees():
            for node in ast.walk(tree):
                self.assertNotIsInstance(node, BARRED_STATEMENTS, name)
                if isinstance(node, ast.Constant):
                    self.assertNotIsInstance(node.value, (float, complex), name)
                    if isinstance(node.value, str):
                        self.assertNotIn("%", node.value, name)
                if isinstance(node, ast.FunctionDef):
                    self.assertEqual(node.decorator_list, [], name)
                if isinstance(node, ast.Compare):
                    for sign, side in zip(node.ops, node.comparators):
                        if isinstance(sign, (ast.Is, ast.IsNot)):
                            self.assertIsInstance(side, ast.Constant, name)

    def test_finally_only_puts_back(self):
        for name, tree in self.trees():
            for node in [node for node in ast.walk(tree) if isinstance(node, ast.Try)]:
                self.assertEqual([node.handlers, node.orelse], [[], []], name)
                for row in node.finalbody:
                    self.assertIsInstance(row, ast.Assign, name)
                    self.assertIsInstance(row.value, ast.Name, name)

    def test_tables_of_a_module_are_only_read(self):
        for name, tree in self.trees():
            tables = [target.id for node in tree.body if isinstance(node, ast.Assign) for target in node.targets
                      if not isinstance(node.value, ast.Constant)]
            read = [node.value for node in ast.walk(tree) if isinstance(node, ast.Subscript)]
            read += [side for node in ast.walk(tree) if isinstance(node, ast.Compare) for side in node.comparators]
            for node in ast.walk(tree):
                if isinstance(node, ast.Name) and isinstance(node.ctx, ast.Load) and node.id in tables:
                    self.assertTrue(any(node is one for one in read), (name, node.id))

    def test_names(self):
        for name, tree in self.trees():
            methods = {id(one) for node in ast.walk(tree) if isinstance(node, ast.ClassDef) for one in node.body}
            for node in ast.walk(tree):
                if isinstance(node, ast.Name):
                    self.assertNotIn(node.id, BARRED, name)
                    if isinstance(node.ctx, ast.Load) and node.id in BUILTINS:
                        self.assertIn(node.id, ALLOWED, name)
                if isinstance(node, ast.FunctionDef) and id(node) in methods:
                    continue
                if isinstance(node, (ast.FunctionDef, ast.ClassDef)):
                    self.assertFalse(node.name in BUILTINS, (name, node.name))
                if isinstance(node, ast.arg):
                    self.assertFalse(node.arg in BUILTINS, (name, node.arg))
                if isinstance(node, ast.Name) and isinstance(node.ctx, ast.Store):
                    self.assertFalse(node.id in BUILTINS, (name, node.id))

    def test_no_local_name_is_that_of_a_class_or_an_import(self):
        for name, tree in self.trees():
            taken = [alias.name for node in tree.body if isinstance(node, ast.ImportFrom) for alias in node.names]
            taken += [node.name for node in tree.body if isinstance(node, ast.ClassDef)]
            for function in [node for node in ast.walk(tree) if isinstance(node, ast.FunctionDef)]:
                for one in bound_names(function):
                    self.assertTrue(one == function.name or one not in taken, (name, one))

    def test_top_names_are_bound_once(self):
        for name, tree in self.trees():
            top = [node.name for node in tree.body if isinstance(node, (ast.FunctionDef, ast.ClassDef))]
            top += [alias.name for node in tree.body if isinstance(node, ast.ImportFrom) for alias in node.names]
            top += [target.id for node in tree.body if isinstance(node, ast.Assign) for target in node.targets]
            self.assertEqual(len(top), len(set(top)), name)

    def test_methods_that_are_called(self):
        own = {node.name for _, tree in self.trees() for node in ast.walk(tree) if isinstance(node, ast.FunctionDef)}
        for name, tree in self.trees():
            for node in ast.walk(tree):
                if isinstance(node, ast.Call) and isinstance(node.func, ast.Attribute):
                    self.assertIn(node.func.attr, METHODS | own, name)

    def test_no_name_is_a_method_and_an_attribute(self):
        methods, attributes = set(), set()
        for _, tree in self.trees():
            for node in ast.walk(tree):
                if isinstance(node, ast.ClassDef):
                    methods |= {one.name for one in node.body if isinstance(one, ast.FunctionDef)}
                if isinstance(node, ast.Attribute) and isinstance(node.ctx, ast.Store):
                    attributes.add(node.attr)
        self.assertEqual(methods & attributes, set())

    def test_loops_do_not_change_what_they_go_over(self):
        changing = {"append", "clear", "extend", "insert", "pop", "remove", "reverse", "setdefault", "update"}
        for name, tree in self.trees():
            for loop in [node for node in ast.walk(tree) if isinstance(node, ast.For)]:
                over = {node.id for node in ast.walk(loop.iter) if isinstance(node, ast.Name)}
                for node in [inner for row in loop.body for inner in ast.walk(row)]:
                    if isinstance(node, ast.Call) and isinstance(node.func, ast.Attribute):
                        if node.func.attr in changing and isinstance(node.func.value, ast.Name):
                            self.assertNotIn(node.func.value.id, over, (name, loop.lineno))
                    if isinstance(node, ast.Subscript) and isinstance(node.ctx, ast.Store):
                        if isinstance(node.value, ast.Name):
                            self.assertNotIn(node.value.id, over, (name, loop.lineno))


if __name__ == "__main__":
    unittest.main()
