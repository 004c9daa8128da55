"""The rules of ../shared/LANGUAGE.md that can be looked at row by row; the others are kept by hand."""

import ast
import builtins
import re
import unittest
from pathlib import Path

FOLDER = Path(__file__).resolve().parent.parent / "formatwords"
FILES = sorted(FOLDER.glob("*.py"))

BUILTINS = set(
    "len range enumerate zip min max sum abs sorted reversed int str bool bytes list tuple dict set frozenset "
    "isinstance ord repr any all divmod super property staticmethod classmethod Exception ValueError TypeError "
    "KeyError IndexError LookupError ZeroDivisionError ArithmeticError OverflowError RuntimeError "
    "NotImplementedError AttributeError StopIteration NotImplemented".split())
METHODS = set("__init__ __eq__ __repr__ __str__ __len__ __enter__ __exit__ __call__ __iter__".split())
WORDS = set(
    "type typing typing_extensions enum Enum IntEnum StrEnum Flag IntFlag Generic Protocol ABC ABCMeta namedtuple "
    "NamedTuple TypedDict TYPE_CHECKING abstractmethod".split())
NAMES = set(
    "register mro elements open input version_info with_traceback add_note attrgetter breakpoint builtins compile "
    "copyright credits delattr dir eval exec exit gc getattr globals hasattr help id importlib license locals "
    "methodcaller os quit setattr type vars sys".split())
VALUE_METHODS = set(
    "append clear copy count endswith extend find get index insert isalnum isalpha isdigit islower isspace isupper "
    "items join keys ljust lower lstrip partition pop remove replace reverse rfind rjust rpartition rsplit rstrip "
    "setdefault split splitlines startswith strip update upper values zfill bit_length title capitalize swapcase "
    "casefold center expandtabs removeprefix removesuffix rindex isascii isdecimal isnumeric istitle isidentifier "
    "isprintable add discard".split())
STATEMENTS = (ast.Global, ast.AsyncFunctionDef, ast.AsyncFor, ast.AsyncWith, ast.Await, ast.Import)


def trees():
    return [(path, ast.parse(path.read_text())) for path in FILES]


def nodes():
    return [(f"{path.name}:{getattr(node, 'lineno', 0)}", node) for path, tree in trees() for node in ast.walk(tree)]


class TestLanguage(unittest.TestCase):
    def test_files(self):
        names = [path.name for path in FOLDER.iterdir() if path.name != "__pycache__"]
        self.assertIn("__init__.py", names)
        for name in names:
            self.assertRegex(name, r"^[a-z_][a-z0-9_]*\.py$")
        self.assertLessEqual(len(names), 100)

    def test_rows(self):
        for path in FILES:
            rows = path.read_text().split("\n")
            self.assertLessEqual(len(rows), 401, path.name)
            for row in rows:
                self.assertRegex(row, r"^[ -~]{0,120}$", path.name)

    def test_words(self):
        for path in FILES:
            text = path.read_text()
            self.assertEqual(set(re.findall(r"\w+", text)) & WORDS, set(), path.name)
            self.assertNotRegex(text, "dataclass|overload|contextmanager")

    def test_functions(self):
        for where, node in nodes():
            if isinstance(node, ast.FunctionDef):
                self.assertLessEqual(node.end_lineno - node.lineno + 1, 40, where)
                self.assertEqual(node.args.posonlyargs, [], where)
                if node.name.startswith("__"):
                    self.assertIn(node.name, METHODS, where)

    def test_imports(self):
        known = {}
        for path, tree in trees():
            known[path.stem] = set()
            for node in ast.walk(tree):
                if isinstance(node, ast.ImportFrom):
                    self.assertEqual(node.level, 0, path.name)
                    self.assertRegex(node.module, r"^formatwords\.[a-z]+$", path.name)
                    known[path.stem].add(node.module.split(".")[1])
        while known:
            free = [name for name in known if not known[name] & set(known)]
            self.assertNotEqual(free, [], f"imports in a ring: {sorted(known)}")
            known = {name: known[name] for name in known if name not in free}

    def test_names(self):
        for where, node in nodes():
            for name in [getattr(node, field, None) for field in ("id", "arg", "attr", "name")]:
                if isinstance(name, str):
                    self.assertNotIn(name, NAMES, where)
                    self.assertTrue(not name.startswith("_") or name in METHODS, where)

    def test_names_are_not_those_of_builtins(self):
        for where, node in nodes():
            name = node.arg if isinstance(node, ast.arg) else None
            if isinstance(node, ast.Name) and isinstance(node.ctx, ast.Store):
                name = node.id
            if name is not None:
                self.assertNotIn(name, dir(builtins), where)

    def test_names_are_not_those_of_imports_and_classes(self):
        for path, tree in trees():
            taken = {node.name for node in tree.body if isinstance(node, ast.ClassDef)}
            for node in tree.body:
                if isinstance(node, ast.ImportFrom):
                    taken |= {name.asname or name.name for name in node.names}
            for node in ast.walk(tree):
                if isinstance(node, ast.arg):
                    self.assertNotIn(node.arg, taken, path.name)
                if isinstance(node, ast.Name) and isinstance(node.ctx, ast.Store):
                    self.assertNotIn(node.id, taken, path.name)

    def test_each_import_names_the_file_that_defines_it(self):
        defined = {}
        for path, tree in trees():
            defined[path.stem] = {node.name for node in tree.body if isinstance(node, (ast.FunctionDef, ast.ClassDef))}
            for node in tree.body:
                if isinstance(node, ast.Assign):
                    defined[path.stem] |= {target.id for target in node.targets}
        for where, node in nodes():
            if isinstance(node, ast.ImportFrom):
                self.assertLessEqual({name.name for name in node.names}, defined[node.module.split(".")[1]], where)

    def test_each_import_is_used(self):
        for path, tree in trees():
            used = {node.id for node in ast.walk(tree) if isinstance(node, ast.Name)}
            for node in tree.body:
                if isinstance(node, ast.ImportFrom):
                    self.assertLessEqual({name.name for name in node.names}, used, path.name)

    def test_builtins(self):
        for where, node in nodes():
            if isinstance(node, ast.Name) and node.id in dir(builtins):
                self.assertIn(node.id, BUILTINS, where)

    def test_statements_and_values(self):
        for where, node in nodes():
            self.assertNotIsInstance(node, STATEMENTS, where)
            if isinstance(node, ast.Constant):
                self.assertNotIsInstance(node.value, (float, complex), where)
                if isinstance(node.value, str):
                    self.assertNotIn("%", node.value, where)
            if isinstance(node, ast.BinOp):
                self.assertNotIsInstance(node.op, (ast.Div, ast.MatMult), where)
                if isinstance(node.op, ast.Pow):
                    self.assertIsInstance(node.right, ast.Constant, where)

    def test_is(self):
        for where, node in nodes():
            if isinstance(node, ast.Compare):
                for sign, other in zip(node.ops, node.comparators):
                    if isinstance(sign, (ast.Is, ast.IsNot)):
                        self.assertTrue(isinstance(other, ast.Constant) and other.value in (None, True, False), where)

    def test_no_method_is_an_attribute(self):
        methods, attributes = set(), set()
        for where, node in nodes():
            if isinstance(node, ast.ClassDef):
                methods |= {part.name for part in node.body if isinstance(part, ast.FunctionDef)}
            if isinstance(node, ast.Attribute) and isinstance(node.ctx, ast.Store):
                attributes.add(node.attr)
        self.assertEqual(methods & attributes, set())

    def test_methods_that_are_called(self):
        own = {part.name for where, node in nodes() if isinstance(node, ast.ClassDef) for part in node.body
               if isinstance(part, ast.FunctionDef)}
        for where, node in nodes():
            if isinstance(node, ast.Call) and isinstance(node.func, ast.Attribute):
                self.assertIn(node.func.attr, VALUE_METHODS | own, where)
                if node.func.attr not in own:
                    self.assertEqual(node.keywords, [], where)

    def test_lambdas(self):
        rows = [f"{where} {ast.dump(node.args)}" for where, node in nodes() if isinstance(node, ast.Lambda)]
        self.assertEqual(len(rows), len(set(rows)))

    def test_lengths(self):
        for where, node in nodes():
            if isinstance(node, ast.FunctionDef) and node.name == "__len__":
                for part in ast.walk(node):
                    if isinstance(part, ast.Return):
                        self.assertEqual(getattr(getattr(part.value, "func", None), "id", None), "len", where)

    def test_errors_are_made_on_the_spot(self):
        known = {part.name for path, tree in trees() if path.stem == "errors" for part in tree.body
                 if isinstance(part, ast.ClassDef)}
        for where, node in nodes():
            if isinstance(node, ast.Raise):
                self.assertTrue(isinstance(node.exc, ast.Call) and node.exc.func.id in known, where)

    def test_generators(self):
        # Where a class has __eq__, any, all, min, max, sum and sorted take a list.
        for where, node in nodes():
            if isinstance(node, ast.Call) and isinstance(node.func, ast.Name):
                if node.func.id in ("any", "all", "min", "max", "sum", "sorted"):
                    self.assertNotIsInstance(node.args[0], ast.GeneratorExp, where)

    def test_methods_are_called_where_they_stand(self):
        own = {part.name for where, node in nodes() if isinstance(node, ast.ClassDef) for part in node.body
               if isinstance(part, ast.FunctionDef)}
        for path, tree in trees():
            called = [node.func for node in ast.walk(tree) if isinstance(node, ast.Call)]
            for node in ast.walk(tree):
                if isinstance(node, ast.Attribute) and isinstance(node.ctx, ast.Load) and node not in called:
                    self.assertNotIn(node.attr, own, f"{path.name}:{node.lineno}")

    def test_attributes_that_are_read_are_assigned(self):
        assigned = {node.attr for where, node in nodes() if isinstance(node, ast.Attribute)
                    and isinstance(node.ctx, ast.Store)}
        for path, tree in trees():
            called = [node.func for node in ast.walk(tree) if isinstance(node, ast.Call)]
            for node in ast.walk(tree):
                if isinstance(node, ast.Attribute) and isinstance(node.ctx, ast.Load) and node not in called:
                    self.assertIn(node.attr, assigned, f"{path.name}:{node.lineno}")

    def test_stars_in_calls(self):
        for where, node in nodes():
            if isinstance(node, ast.Call):
                for part in node.args:
                    if isinstance(part, ast.Starred):
                        self.assertIsInstance(part.value, (ast.Name, ast.Attribute), where)

    def test_sets_are_not_stored(self):
        for path, tree in trees():
            within = [part for node in ast.walk(tree) if isinstance(node, ast.Call) and isinstance(node.func, ast.Name)
                      and node.func.id in ("sorted", "len") for part in node.args]
            for node in ast.walk(tree):
                if isinstance(node, (ast.Set, ast.SetComp)):
                    self.assertIn(node, within, f"{path.name}:{node.lineno}")

    def test_no_loop_changes_what_it_goes_through(self):
        changing = ("append", "extend", "insert", "pop", "remove", "reverse", "clear", "update", "setdefault")
        for where, node in nodes():
            if isinstance(node, ast.For):
                through = ast.dump(node.iter)
                for part in ast.walk(node):
                    if isinstance(part, ast.Call) and isinstance(part.func, ast.Attribute) and part.func.attr in changing:
                        self.assertNotEqual(ast.dump(part.func.value), through, where)
                    if isinstance(part, ast.Subscript) and not isinstance(part.ctx, ast.Load):
                        self.assertNotEqual(ast.dump(part.value).replace("Store()", "Load()"), through, where)

    def test_values_of_modules(self):
        for path, tree in trees():
            for node in tree.body:
                self.assertIsInstance(node, (ast.Expr, ast.ImportFrom, ast.FunctionDef, ast.ClassDef, ast.Assign), path.name)
                if isinstance(node, ast.Assign):
                    parts = [part for part in ast.walk(node.value) if isinstance(part, (ast.List, ast.Dict, ast.Call))]
                    self.assertLessEqual(len(parts), 1, path.name)

    def test_text_methods_assign_nothing(self):
        for where, node in nodes():
            if isinstance(node, ast.FunctionDef) and node.name in ("__eq__", "__str__", "__repr__", "__len__"):
                for part in ast.walk(node):
                    self.assertNotIsInstance(part, (ast.Assign, ast.AugAssign, ast.Delete), where)
                self.assertIsInstance(node.body[-1], ast.Return, where)


if __name__ == "__main__":
    unittest.main()
