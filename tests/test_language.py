"""Rules of ../shared/LANGUAGE.md that can be read off the syntax of the package's files."""

import ast
import builtins
import pathlib
import re
import unittest

PACKAGE = pathlib.Path(__file__).resolve().parent.parent / "cutofftills"
FILES = {path.stem: path for path in sorted(PACKAGE.glob("*.py"))}
TREES = {stem: ast.parse(path.read_text(encoding="utf-8")) for stem, path in FILES.items()}

LIBRARY = {"heapq": {"heappush", "heappop", "heapify", "heapreplace", "heappushpop"},
           "math": {"gcd", "lcm", "isqrt", "comb", "perm", "factorial"}}
ALLOWED = set("""len range enumerate zip min max sum abs sorted reversed int str bool bytes list tuple dict set
    frozenset isinstance ord repr any all divmod pow getattr hasattr setattr Exception ValueError TypeError KeyError
    IndexError LookupError ZeroDivisionError ArithmeticError OverflowError RuntimeError NotImplementedError
    AttributeError StopIteration NotImplemented iter next map property staticmethod classmethod super""".split())
METHODS = set("""append clear copy count endswith extend find get index insert isalnum isalpha isdigit islower isspace
    isupper items join keys ljust lower lstrip partition pop remove replace reverse rfind rjust rpartition rsplit rstrip
    setdefault split splitlines startswith strip update upper values zfill bit_length""".split())
BARRED = """typing typing_extensions enum Enum IntEnum StrEnum Flag IntFlag Generic Protocol ABC ABCMeta namedtuple
    NamedTuple TypedDict TYPE_CHECKING abstractmethod register mro elements open input law version_info""".split()
OPERATORS = {"__init__", "__eq__", "__repr__", "__str__", "__len__", "__enter__", "__exit__", "__call__", "__iter__",
             "__le__", "__lt__", "__or__", "__and__", "__add__", "__contains__", "__getitem__"}
PLAIN_CALLS = {"len", "int", "ord", "str", "repr"}
LAZY = {"zip", "enumerate", "reversed", "range"}
TAKES_LAZY = {"list", "tuple", "dict", "sorted", "sum", "any", "all", "enumerate", "zip"}
STATEMENTS = (ast.Assign, ast.AugAssign, ast.If, ast.While, ast.For, ast.Return, ast.Break, ast.Continue, ast.Pass,
              ast.Raise, ast.Assert, ast.Delete, ast.With, ast.Try, ast.Expr, ast.FunctionDef, ast.ClassDef,
              ast.ImportFrom, ast.Match)


def nodes(kind):
    """All nodes of a kind, each with the place where it stands."""
    for stem, tree in TREES.items():
        for node in ast.walk(tree):
            if isinstance(node, kind):
                yield f"{stem}.py:{getattr(node, 'lineno', 0)}", node


def called(node):
    """The bare name that a node calls, or None."""
    return node.func.id if isinstance(node, ast.Call) and isinstance(node.func, ast.Name) else None


def bound_in(function):
    """The names that a function binds: parameters, targets, nested functions."""
    found = [arg.arg for arg in ast.walk(function.args) if isinstance(arg, ast.arg)]
    for node in ast.walk(function):
        if isinstance(node, ast.Name) and isinstance(node.ctx, ast.Store):
            found.append(node.id)
        if isinstance(node, ast.FunctionDef) and node is not function:
            found.append(node.name)
    return found


def is_plain(node):
    """Whether a node is plainly a number or a string."""
    if isinstance(node, (ast.Constant, ast.JoinedStr)) or called(node) in PLAIN_CALLS:
        return True
    if isinstance(node, ast.BinOp):
        return is_plain(node.left) and is_plain(node.right)
    return isinstance(node, ast.UnaryOp) and is_plain(node.operand)


def is_plain_row(node):
    """Whether a node is plainly a row of numbers or strings."""
    if isinstance(node, ast.ListComp):
        return is_plain(node.elt)
    return isinstance(node, ast.List) and all(is_plain(part) for part in node.elts) or called(node) == "range"


class Files(unittest.TestCase):
    def test_there_are_files(self):
        self.assertIn("__init__", FILES)
        self.assertIn("errors", FILES)

    def test_the_folder_holds_nothing_else(self):
        for path in PACKAGE.iterdir():
            if path.name != "__pycache__":
                self.assertRegex(path.name, r"^[a-z_][a-z0-9_]*\.py$")

    def test_sizes_and_characters(self):
        for path in FILES.values():
            text = path.read_bytes()
            self.assertTrue(set(text) <= {10, *range(32, 127)}, path.name)
            lines = text.decode("ascii").split("\n")
            self.assertLessEqual(len(lines), 400, path.name)
            self.assertLessEqual(max(len(line) for line in lines), 120, path.name)

    def test_functions_are_short(self):
        for place, node in nodes(ast.FunctionDef):
            self.assertLessEqual(node.end_lineno - node.lineno + 1, 40, place)

    def test_barred_words(self):
        for path in FILES.values():
            text = path.read_text(encoding="ascii")
            for word in BARRED:
                self.assertIsNone(re.search(rf"\b{word}\b", text), (path.name, word))
            for word in ("dataclass", "overload", "contextmanager", "Meta", "metaclass=", "(type)", "_wall"):
                self.assertNotIn(word, text, path.name)
        for place, node in nodes(ast.Name):
            self.assertNotEqual(node.id, "type", place)


class Statements(unittest.TestCase):
    def test_kinds(self):
        for place, node in nodes(ast.stmt):
            self.assertIsInstance(node, STATEMENTS, place)

    def test_module_level(self):
        for stem, tree in TREES.items():
            for node in tree.body:
                docstring = isinstance(node, ast.Expr) and isinstance(node.value, ast.Constant)
                plain = isinstance(node, (ast.ImportFrom, ast.FunctionDef, ast.ClassDef))
                named = isinstance(node, ast.Assign) and isinstance(node.targets[0], ast.Name)
                self.assertTrue(docstring or plain or named, f"{stem}.py:{node.lineno}")
                if named:
                    ast.literal_eval(node.value)

    def test_expressions(self):
        for place, node in nodes((ast.Div, ast.GeneratorExp, ast.Set, ast.SetComp, ast.Await, ast.YieldFrom, ast.Starred)):
            self.fail(f"{place} {node}")
        for place, node in nodes(ast.Constant):
            self.assertNotIsInstance(node.value, (float, complex), place)
            if isinstance(node.value, str):
                self.assertNotIn("%", node.value, place)

    def test_is_only_beside_constants(self):
        for place, node in nodes(ast.Compare):
            if any(isinstance(sign, (ast.Is, ast.IsNot)) for sign in node.ops):
                self.assertIsInstance(node.comparators[0], ast.Constant, place)

    def test_errors_are_created_where_they_are_raised(self):
        for place, node in nodes(ast.Raise):
            self.assertIsNotNone(called(node.exc), place)


class Names(unittest.TestCase):
    def test_imports(self):
        for place, node in nodes(ast.Import):
            self.fail(place)
        for place, node in nodes(ast.ImportFrom):
            self.assertEqual(node.level, 0, place)
            for name in node.names:
                self.assertIsNone(name.asname, place)
                if node.module in LIBRARY:
                    self.assertIn(name.name, LIBRARY[node.module], place)
                    continue
                self.assertTrue(node.module.startswith("cutofftills."), place)
                tree = TREES[node.module.split(".")[1]]
                own = [part.name for part in tree.body if isinstance(part, (ast.FunctionDef, ast.ClassDef))]
                own += [part.targets[0].id for part in tree.body if isinstance(part, ast.Assign)]
                self.assertIn(name.name, own, place)

    def test_imports_are_used(self):
        for stem, tree in TREES.items():
            used = {node.id for node in ast.walk(tree) if isinstance(node, ast.Name)}
            for node in tree.body:
                if isinstance(node, ast.ImportFrom):
                    self.assertLessEqual({name.name for name in node.names}, used, stem)

    def test_no_two_files_import_from_each_other(self):
        wanted = {stem: {node.module.split(".")[1] for node in tree.body if isinstance(node, ast.ImportFrom)
                         and node.module not in LIBRARY} for stem, tree in TREES.items()}
        while wanted:
            free = [stem for stem in wanted if not wanted[stem] & set(wanted)]
            self.assertTrue(free, wanted)
            for stem in free:
                del wanted[stem]

    def test_module_names_are_bound_once(self):
        for stem, tree in TREES.items():
            names = []
            for node in tree.body:
                if isinstance(node, ast.ImportFrom):
                    names += [name.name for name in node.names]
                if isinstance(node, (ast.FunctionDef, ast.ClassDef)):
                    names.append(node.name)
                if isinstance(node, ast.Assign):
                    names.append(node.targets[0].id)
            self.assertEqual(len(names), len(set(names)), stem)

    def test_no_local_name_hides_a_class_an_import_or_a_builtin(self):
        for stem, tree in TREES.items():
            taken = {name.name for node in tree.body if isinstance(node, ast.ImportFrom) for name in node.names}
            taken |= {node.name for node in tree.body if isinstance(node, ast.ClassDef)} | set(dir(builtins))
            for node in ast.walk(tree):
                if isinstance(node, ast.FunctionDef):
                    self.assertEqual(taken & set(bound_in(node)), set(), f"{stem}.py:{node.lineno}")
            functions = {node.name for node in tree.body if isinstance(node, ast.FunctionDef)}
            self.assertEqual(functions & set(dir(builtins)), set(), stem)

    def test_only_some_builtins(self):
        for place, node in nodes(ast.Name):
            if isinstance(node.ctx, ast.Load) and hasattr(builtins, node.id):
                self.assertIn(node.id, ALLOWED, place)

    def test_double_underscore_methods(self):
        for place, node in nodes(ast.FunctionDef):
            if node.name.startswith("__"):
                self.assertIn(node.name, OPERATORS, place)
            for decorator in node.decorator_list:
                self.assertIn(getattr(decorator, "id", ""), ("staticmethod", "classmethod", "property"), place)

    def test_lengths(self):
        for place, node in nodes(ast.FunctionDef):
            if node.name == "__len__":
                self.assertEqual(called(node.body[0].value), "len", place)
                self.assertEqual(len(node.body), 1, place)


class Calls(unittest.TestCase):
    def test_methods_are_own_or_listed(self):
        own = {node.name for _, node in nodes(ast.FunctionDef)}
        for place, node in nodes(ast.Call):
            if isinstance(node.func, ast.Attribute):
                self.assertIn(node.func.attr, METHODS | own, place)

    def test_attributes_are_assigned_or_methods(self):
        own = {node.name for _, node in nodes(ast.FunctionDef)} | METHODS
        own |= {node.attr for _, node in nodes(ast.Attribute) if isinstance(node.ctx, ast.Store)}
        for place, node in nodes(ast.Attribute):
            self.assertIn(node.attr, own, place)

    def test_no_name_is_a_method_and_an_attribute(self):
        methods = {part.name for _, node in nodes(ast.ClassDef) for part in node.body
                   if isinstance(part, ast.FunctionDef)}
        stored = {node.attr for _, node in nodes(ast.Attribute) if isinstance(node.ctx, ast.Store)}
        self.assertEqual(methods & stored, set())

    def test_what_is_ordered_is_plainly_numbers_or_strings(self):
        for place, node in nodes(ast.Call):
            if called(node) in ("min", "max", "sorted"):
                self.assertEqual(node.keywords, [], place)
                if len(node.args) == 1:
                    self.assertTrue(is_plain_row(node.args[0]), place)
                else:
                    self.assertTrue(any(is_plain(part) for part in node.args), place)

    def test_lazy_rows_are_iterated_at_once(self):
        fine = set()
        for _, node in nodes((ast.For, ast.comprehension)):
            fine.add(node.iter)
        for _, node in nodes(ast.Call):
            if called(node) in TAKES_LAZY:
                fine |= set(node.args)
        for place, node in nodes(ast.Call):
            lazy = called(node) in LAZY
            if isinstance(node.func, ast.Attribute) and not node.args:
                lazy = node.func.attr in ("items", "keys", "values")
            if lazy:
                self.assertIn(node, fine, place)

    def test_builtins_get_no_keywords(self):
        for place, node in nodes(ast.Call):
            if called(node) in ALLOWED:
                self.assertEqual(node.keywords, [], place)


if __name__ == "__main__":
    unittest.main()
