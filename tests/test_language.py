"""Those rules of the language of the package that are seen in its text at once."""

import ast
import builtins
import pathlib
import re
import unittest

FOLDER = pathlib.Path(__file__).resolve().parent.parent / "innercommits"
FILES = sorted(FOLDER.glob("*.py"))
LIBRARY = {
    "heapq": {"heappush", "heappop", "heapify", "heapreplace", "heappushpop"},
    "math": {"gcd", "lcm", "isqrt", "comb", "perm", "factorial"},
    "itertools": {"product", "combinations", "permutations", "chain", "accumulate", "pairwise",
                  "islice", "zip_longest"},
    "collections": {"defaultdict"},
    "__future__": {"annotations"},
}
BARRED_NODES = (
    ast.Global, ast.AsyncFunctionDef, ast.AsyncFor, ast.AsyncWith, ast.Await, ast.Import,
    ast.TryStar, ast.Div,
)
BARRED_NAMES = {"register", "mro", "elements", "open", "input", "law", "version_info",
                "with_traceback", "add_note", "eval", "exec", "globals", "locals", "vars", "id",
                "dir", "hash", "print", "callable", "filter", "float", "object", "round"}
BARRED_WORDS = re.compile(
    r"\b(type|typing|enum|Enum|Generic|Protocol|ABC|ABCMeta|namedtuple|abstractmethod)\b"
    r"|dataclass|overload|contextmanager|_wall|_WallAttr")

# Names that L12 and L26 rule out, for attributes and, the first ones, for all names.
BARRED_LATER = re.compile(
    r"^_(wall|pe_|dcw_|enum_|cm_|twin_re_|lay_|law_|stub_|sre)|"
    r"^_(cold|tuplegetter|outside|record|written_out|member_names)[0-9_]*$")
BARRED_ATTRIBUTES = {"items", "keys", "values", "pop", "update", "append", "clear", "extend", "insert", "remove",
                     "reverse", "setdefault", "sort", "args", "encode", "decode", "hex", "fromhex", "format"}
SPECIAL = {"__init__", "__eq__", "__str__", "__len__", "__iter__", "__call__", "__contains__", "__getitem__",
           "__setitem__", "__and__", "__or__", "__rshift__", "__invert__", "__bool__"}
PLAIN = (ast.Constant, ast.Tuple, ast.List, ast.Dict, ast.Load, ast.UnaryOp, ast.USub)


def trees():
    for file in FILES:
        text = file.read_text(encoding="utf-8")
        yield file.name, text, ast.parse(text)


class LanguageTest(unittest.TestCase):
    def test_the_folder_contains_only_files_of_python(self):
        names = [path.name for path in FOLDER.iterdir() if path.name != "__pycache__"]
        self.assertEqual(sorted(names), [file.name for file in FILES])
        for name in names:
            self.assertRegex(name, r"^(__init__|[a-z][a-z0-9_]*)\.py$")

    def test_sizes_and_characters(self):
        for name, text, tree in trees():
            lines = text.split("\n")
            self.assertLessEqual(len(lines), 399, name)
            for number, line in enumerate(lines, 1):
                self.assertLessEqual(len(line), 120, (name, number))
            self.assertRegex(text, r"\A[ -~\n]*\Z", name)
            for node in ast.walk(tree):
                if isinstance(node, ast.FunctionDef):
                    self.assertLessEqual(node.end_lineno - node.lineno + 1, 40, (name, node.name))

    def test_imports(self):
        for name, _, tree in trees():
            for node in ast.walk(tree):
                if isinstance(node, ast.ImportFrom):
                    self.assertEqual(node.level, 0, name)
                    if node.module in LIBRARY:
                        self.assertLessEqual({one.name for one in node.names}, LIBRARY[node.module])
                    else:
                        self.assertRegex(node.module, r"^innercommits\.[a-z_]+$", name)
                        self.assertNotIn("*", [one.name for one in node.names])

    def test_barred_statements_names_and_words(self):
        for name, text, tree in trees():
            self.assertIsNone(BARRED_WORDS.search(text), name)
            for node in ast.walk(tree):
                self.assertNotIsInstance(node, BARRED_NODES, name)
                if isinstance(node, ast.Name):
                    self.assertNotIn(node.id, BARRED_NAMES, (name, node.lineno))
                if isinstance(node, ast.Constant) and isinstance(node.value, (str, bytes)):
                    self.assertNotIn("%", str(node.value), (name, node.lineno))
                if isinstance(node, ast.Constant):
                    self.assertNotIsInstance(node.value, (float, complex), (name, node.lineno))

    def test_names(self):
        for name, _, tree in trees():
            taken = set(dir(builtins)) | {
                one.name for node in ast.walk(tree) if isinstance(node, ast.ImportFrom) for one in node.names
            } | {node.name for node in tree.body if isinstance(node, ast.ClassDef)}
            for node in ast.walk(tree):
                bound = None
                if isinstance(node, ast.arg):
                    bound = node.arg
                elif isinstance(node, ast.Name) and isinstance(node.ctx, ast.Store):
                    bound = node.id
                elif isinstance(node, ast.ExceptHandler):
                    bound = node.name
                self.assertNotIn(bound, taken, name)
                for text in (bound, getattr(node, "attr", None), getattr(node, "name", None)):
                    if isinstance(text, str):
                        self.assertNotRegex(text, BARRED_LATER, name)
                        self.assertTrue(text in SPECIAL or not text.startswith("__"), (name, text))

    def test_module_level(self):
        for name, _, tree in trees():
            for at, node in enumerate(tree.body):
                if isinstance(node, ast.Assign):
                    self.assertIsInstance(node.targets[0], ast.Name, name)
                    for part in ast.walk(node.value):
                        self.assertIsInstance(part, PLAIN, (name, node.lineno))
                elif isinstance(node, ast.Expr):
                    self.assertEqual(at, 0, name)
                else:
                    self.assertIsInstance(node, (ast.ImportFrom, ast.FunctionDef, ast.ClassDef), name)

    def test_calls_comparisons_and_errors(self):
        for name, _, tree in trees():
            for node in ast.walk(tree):
                if isinstance(node, ast.Call) and isinstance(node.func, ast.Name):
                    if node.func.id in ("sorted", "any", "all", "sum", "min", "max"):
                        for part in node.args:
                            self.assertNotIsInstance(part, ast.GeneratorExp, (name, node.lineno))
                if isinstance(node, ast.Call) and isinstance(node.func, ast.Attribute):
                    self.assertNotEqual(node.func.attr, "sort", (name, node.lineno))
                if isinstance(node, ast.Compare):
                    for sign, part in zip(node.ops, node.comparators):
                        if isinstance(sign, (ast.Is, ast.IsNot)):
                            self.assertIsInstance(part, ast.Constant, (name, node.lineno))
                if isinstance(node, ast.Raise) and node.exc is not None:
                    self.assertIsInstance(node.exc, ast.Call, (name, node.lineno))
                if isinstance(node, ast.ExceptHandler):
                    self.assertIsNotNone(node.type, (name, node.lineno))


def names_of(node):
    """The names of the methods of a class, its properties, its static methods and its attributes."""
    methods, properties, static, attributes = set(), set(), set(), set()
    for method in node.body:
        if not isinstance(method, ast.FunctionDef):
            continue
        words = {one.id for one in method.decorator_list}
        (properties if "property" in words else static if "staticmethod" in words else methods).add(method.name)
        for part in ast.walk(method):
            if isinstance(part, ast.Attribute) and isinstance(part.ctx, ast.Store):
                attributes.add(part.attr)
    return methods, properties, static, attributes


class ClassTest(unittest.TestCase):
    def test_names_of_methods_properties_and_attributes(self):
        classes = {node.name: names_of(node) for _, _, tree in trees() for node in tree.body
                   if isinstance(node, ast.ClassDef)}
        methods, properties, static, attributes = [set().union(*[one[at] for one in classes.values()])
                                                   for at in range(4)]
        for name, told in classes.items():
            self.assertFalse(told[3] & (told[0] | told[1] | told[2]), name)
        self.assertFalse(properties & (methods | static | attributes))
        self.assertFalse(static & (methods | properties | attributes))
        self.assertFalse(attributes & BARRED_ATTRIBUTES)
        self.assertFalse((properties | static) & set(dir(str) + dir(list) + dir(dict) + dir(set)))

    def test_decorators(self):
        for name, _, tree in trees():
            for node in ast.walk(tree):
                for word in getattr(node, "decorator_list", []):
                    self.assertIn(word.id, ("property", "staticmethod"), name)

    def test_no_other_thing_has_the_name_of_a_generator(self):
        defined, generators, stored = [], set(), set()
        for _, _, tree in trees():
            for node in ast.walk(tree):
                if isinstance(node, ast.FunctionDef):
                    defined.append(node.name)
                    if any(isinstance(part, (ast.Yield, ast.YieldFrom)) for part in ast.walk(node)):
                        generators.add(node.name)
                elif isinstance(node, ast.Attribute) and isinstance(node.ctx, ast.Store):
                    stored.add(node.attr)
        self.assertEqual(generators, {"fates", "writes", "waits"})
        for name in generators:
            self.assertEqual(defined.count(name), 1, name)
            self.assertNotIn(name, stored)

    def test_what_a_class_with_items_has(self):
        for name, _, tree in trees():
            for node in tree.body:
                if isinstance(node, ast.ClassDef):
                    methods = names_of(node)[0]
                    self.assertTrue("__getitem__" not in methods or "__iter__" in methods, (name, node.name))
                    self.assertNotIn("keys", methods)


def called_names(function):
    """The names that a function calls, bare ones and those of methods."""
    bare, methods = set(), set()
    for node in ast.walk(function):
        if isinstance(node, ast.Call) and isinstance(node.func, ast.Name):
            bare.add(node.func.id)
        elif isinstance(node, ast.Call) and isinstance(node.func, ast.Attribute):
            methods.add(node.func.attr)
    return bare, methods


class OperatorTest(unittest.TestCase):
    def setUp(self):
        self.functions, self.stored, self.starts = {}, set(), []
        for _, _, tree in trees():
            for node in ast.walk(tree):
                if isinstance(node, ast.Attribute) and isinstance(node.ctx, ast.Store):
                    self.stored.add(node.attr)
                elif isinstance(node, ast.FunctionDef):
                    self.functions.setdefault(node.name, []).append(node)
                elif isinstance(node, ast.ClassDef):
                    self.starts += [part for part in node.body if self.is_start(part)]
                    self.functions.setdefault(node.name, []).extend(
                        part for part in node.body if getattr(part, "name", "") == "__init__")

    def is_start(self, part):
        """Whether this is an operator that changes nothing, or a property."""
        if not isinstance(part, ast.FunctionDef):
            return False
        special = part.name.startswith("__") and part.name not in ("__init__", "__call__", "__iter__", "__setitem__")
        return special or any(word.id == "property" for word in part.decorator_list)

    def reached(self):
        """The operators and properties, and all functions that they may call, by their names."""
        waiting, found = list(self.starts), {}
        while waiting:
            function = waiting.pop()
            if function not in found:
                found[function] = True
                for name in set().union(*called_names(function)):
                    waiting.extend(self.functions.get(name, []))
        return found

    def test_operators_and_properties_call_nothing_that_an_object_may_hold(self):
        self.assertGreater(len(self.starts), 15)
        for function in self.reached():
            self.assertFalse(called_names(function)[1] & self.stored, (function.name, function.lineno))

    def test_operators_and_properties_change_no_attribute(self):
        for function in self.reached():
            if function.name != "__init__":
                for node in ast.walk(function):
                    is_stored = isinstance(node, ast.Attribute) and isinstance(node.ctx, (ast.Store, ast.Del))
                    self.assertFalse(is_stored, (function.name, function.lineno))


if __name__ == "__main__":
    unittest.main()
