"""Rules of the language subset that a test can see, over every file of the package."""

import ast
import builtins
import pathlib
import unittest

PACKAGE = pathlib.Path(__file__).resolve().parent.parent / "rockbeds"
LIBRARY = {"heapq": {"heappush", "heappop", "heapify", "heapreplace", "heappushpop"},
           "math": {"gcd", "lcm", "isqrt", "comb", "perm", "factorial"},
           "itertools": {"product", "combinations", "permutations"}}
BUILTINS = set(
    "len range enumerate zip min max sum abs sorted reversed int str bool list tuple dict set frozenset isinstance ord "
    "repr any all divmod iter next map super property staticmethod classmethod Exception ValueError TypeError KeyError "
    "IndexError LookupError ZeroDivisionError ArithmeticError OverflowError RuntimeError NotImplementedError "
    "AttributeError StopIteration NotImplemented".split())
METHODS = set(
    "init eq repr str len enter exit call iter lt le gt ge ne add sub mul floordiv mod pow and or xor lshift rshift "
    "radd rsub rmul rfloordiv rmod rand ror rxor rlshift rrshift neg pos invert abs bool contains getitem "
    "setitem".split())
BARRED = set(
    "register mro elements open input law version_info with_traceback add_note attrgetter breakpoint compile copyright "
    "credits delattr dir eval exec exit gc getattr globals hasattr help id importlib license locals methodcaller os "
    "quit setattr type vars typing enum Enum dataclass namedtuple hash round filter print object".split())


def files():
    return sorted(path for path in PACKAGE.rglob("*") if path.is_file() and "__pycache__" not in path.parts)


def trees():
    return [(path.name, ast.parse(path.read_text("ascii"))) for path in files()]


def bound_names(tree):
    for node in ast.walk(tree):
        if isinstance(node, (ast.FunctionDef, ast.ClassDef)):
            yield node.name
        elif isinstance(node, ast.arg):
            yield node.arg
        elif isinstance(node, ast.Name) and isinstance(node.ctx, ast.Store):
            yield node.id
        elif isinstance(node, ast.alias):
            yield node.asname or node.name
        elif isinstance(node, ast.ExceptHandler) and node.name:
            yield node.name


class FilesTest(unittest.TestCase):

    def test_files_lines_and_characters(self):
        for path in files():
            self.assertEqual(path.suffix, ".py")
            text = path.read_text("ascii")
            self.assertTrue(all(" " <= letter <= "~" or letter == "\n" for letter in text), path)
            self.assertLessEqual(len(text.splitlines()), 399, path)
            self.assertLessEqual(max(len(line) for line in text.splitlines()), 120, path)

    def test_functions_have_at_most_forty_lines(self):
        for name, tree in trees():
            for node in ast.walk(tree):
                if isinstance(node, ast.FunctionDef):
                    self.assertLessEqual(node.end_lineno - node.lineno + 1, 40, (name, node.name))


class ImportsTest(unittest.TestCase):

    def test_imports_name_the_file_that_defines(self):
        defined = {}
        for name, tree in trees():
            own = [node.name for node in tree.body if isinstance(node, (ast.FunctionDef, ast.ClassDef))]
            own += [target.id for node in tree.body if isinstance(node, ast.Assign) for target in node.targets]
            defined["rockbeds." + name[:-3]] = own
        for name, tree in trees():
            for node in ast.walk(tree):
                self.assertNotIsInstance(node, ast.Import, name)
                if isinstance(node, ast.ImportFrom):
                    allowed = LIBRARY.get(node.module) or defined[node.module]
                    self.assertEqual(node.level, 0)
                    self.assertLessEqual({alias.name for alias in node.names}, set(allowed), (name, node.module))

    def test_no_file_imports_itself_through_others(self):
        needs = {name[:-3]: {node.module.rpartition(".")[2] for node in tree.body if isinstance(node, ast.ImportFrom)}
                 for name, tree in trees()}
        while needs:
            ready = [name for name, others in needs.items() if not others & set(needs)]
            self.assertTrue(ready, needs)
            needs = {name: others for name, others in needs.items() if name not in ready}


class NodesTest(unittest.TestCase):

    def test_statements_and_expressions(self):
        barred = (ast.Global, ast.AsyncFunctionDef, ast.GeneratorExp, ast.Div, ast.AnnAssign, ast.Await)
        for name, tree in trees():
            for node in ast.walk(tree):
                self.assertNotIsInstance(node, barred, (name, getattr(node, "lineno", None)))
                if isinstance(node, ast.Constant):
                    self.assertNotIsInstance(node.value, (float, complex), name)
                    self.assertNotIn("%", str(node.value), name)

    def test_names(self):
        for name, tree in trees():
            for bound in bound_names(tree):
                if bound.startswith("__"):
                    self.assertIn(bound.strip("_"), METHODS, name)
                    continue
                self.assertNotIn(bound, BARRED, name)
                self.assertFalse(hasattr(builtins, bound), (name, bound))

    def test_builtins(self):
        for name, tree in trees():
            known = set(bound_names(tree))
            used = {node.id for node in ast.walk(tree) if isinstance(node, ast.Name)}
            self.assertLessEqual(used - known, BUILTINS, name)

    def test_decorators(self):
        for name, tree in trees():
            for node in ast.walk(tree):
                for decorator in getattr(node, "decorator_list", []):
                    plain = isinstance(decorator, ast.Name) and decorator.id in (
                        "property", "classmethod", "staticmethod")
                    setter = isinstance(decorator, ast.Attribute) and decorator.attr == "setter"
                    self.assertTrue(plain or setter, (name, node.name))

    def test_a_class_with_indexes_says_how_it_is_iterated(self):
        for name, tree in trees():
            for node in ast.walk(tree):
                if isinstance(node, ast.ClassDef):
                    methods = [part.name for part in node.body if isinstance(part, ast.FunctionDef)]
                    if "__getitem__" in methods:
                        self.assertIn("__iter__", methods, (name, node.name))


class MembersTest(unittest.TestCase):

    def setUp(self):
        self.nodes = [node for _, tree in trees() for node in ast.walk(tree)]
        self.methods = [part for node in self.nodes if isinstance(node, ast.ClassDef) for part in node.body
                        if isinstance(part, ast.FunctionDef)]
        self.stored = {node.attr for node in self.nodes
                       if isinstance(node, ast.Attribute) and isinstance(node.ctx, ast.Store)}

    def named(self, decorator):
        return {method.name for method in self.methods
                if any(isinstance(part, ast.Name) and part.id == decorator for part in method.decorator_list)}

    def plain(self):
        return {method.name for method in self.methods if not method.decorator_list}

    def test_properties_have_names_of_their_own(self):
        properties = self.named("property")
        setters = {part.value.id for method in self.methods for part in method.decorator_list
                   if isinstance(part, ast.Attribute)}
        self.assertEqual(properties & self.plain(), set())
        self.assertEqual((properties - setters) & self.stored, set())
        for kind in (str, list, dict, tuple, int, set, bytes):
            self.assertEqual(properties & set(dir(kind)), set())

    def test_class_methods_have_names_of_their_own(self):
        shared = self.plain() | self.named("property") | self.stored
        self.assertEqual((self.named("classmethod") | self.named("staticmethod")) & shared, set())

    def test_no_name_is_a_method_and_an_attribute(self):
        self.assertEqual(self.plain() & self.stored, set())

    def test_generators_have_names_of_their_own(self):
        functions = [node for node in self.nodes if isinstance(node, ast.FunctionDef)]
        names = [node.name for node in functions]
        for node in functions:
            if any(isinstance(part, (ast.Yield, ast.YieldFrom)) for part in ast.walk(node)):
                self.assertEqual(names.count(node.name), 1, node.name)

    def test_nothing_is_added_in_place(self):
        for node in self.nodes:
            if isinstance(node, ast.AugAssign):
                self.assertIsInstance(node.value, ast.Constant)
