"""Those rules of the language of the package that are seen in its text at once."""

import ast
import pathlib
import re
import unittest

FOLDER = pathlib.Path(__file__).resolve().parent.parent / "innercommits"
FILES = sorted(FOLDER.glob("*.py"))
LIBRARY = {
    "heapq": {"heappush", "heappop", "heapify", "heapreplace", "heappushpop"},
    "math": {"gcd", "lcm", "isqrt", "comb", "perm", "factorial"},
    "itertools": {"product", "combinations", "permutations", "chain", "accumulate", "pairwise",
                  "islice", "zip_longest"},
    "collections": {"defaultdict"},
    "__future__": {"annotations"},
}
BARRED_NODES = (
    ast.Global, ast.AsyncFunctionDef, ast.AsyncFor, ast.AsyncWith, ast.Await, ast.Import,
    ast.TryStar, ast.Div,
)
BARRED_NAMES = {"register", "mro", "elements", "open", "input", "law", "version_info",
                "with_traceback", "add_note", "eval", "exec", "globals", "locals", "vars", "id",
                "dir", "hash", "print", "callable", "filter", "float", "object", "round"}
BARRED_WORDS = re.compile(
    r"\b(type|typing|enum|Enum|Generic|Protocol|ABC|ABCMeta|namedtuple|abstractmethod)\b"
    r"|dataclass|overload|contextmanager|_wall|_WallAttr")


def trees():
    for file in FILES:
        text = file.read_text(encoding="utf-8")
        yield file.name, text, ast.parse(text)


class LanguageTest(unittest.TestCase):
    def test_the_folder_contains_only_files_of_python(self):
        names = [path.name for path in FOLDER.iterdir() if path.name != "__pycache__"]
        self.assertEqual(sorted(names), [file.name for file in FILES])
        for name in names:
            self.assertRegex(name, r"^(__init__|[a-z][a-z0-9_]*)\.py$")

    def test_sizes_and_characters(self):
        for name, text, tree in trees():
            lines = text.split("\n")
            self.assertLessEqual(len(lines), 399, name)
            for number, line in enumerate(lines, 1):
                self.assertLessEqual(len(line), 120, (name, number))
            self.assertRegex(text, r"\A[ -~\n]*\Z", name)
            for node in ast.walk(tree):
                if isinstance(node, ast.FunctionDef):
                    self.assertLessEqual(node.end_lineno - node.lineno + 1, 40, (name, node.name))

    def test_imports(self):
        for name, _, tree in trees():
            for node in ast.walk(tree):
                if isinstance(node, ast.ImportFrom):
                    self.assertEqual(node.level, 0, name)
                    if node.module in LIBRARY:
                        self.assertLessEqual({one.name for one in node.names}, LIBRARY[node.module])
                    else:
                        self.assertRegex(node.module, r"^innercommits\.[a-z_]+$", name)
                        self.assertNotIn("*", [one.name for one in node.names])

    def test_barred_statements_names_and_words(self):
        for name, text, tree in trees():
            self.assertIsNone(BARRED_WORDS.search(text), name)
            for node in ast.walk(tree):
                self.assertNotIsInstance(node, BARRED_NODES, name)
                if isinstance(node, ast.Name):
                    self.assertNotIn(node.id, BARRED_NAMES, (name, node.lineno))
                if isinstance(node, ast.Constant) and isinstance(node.value, (str, bytes)):
                    self.assertNotIn("%", str(node.value), (name, node.lineno))
                if isinstance(node, ast.Constant):
                    self.assertNotIsInstance(node.value, (float, complex), (name, node.lineno))


if __name__ == "__main__":
    unittest.main()
