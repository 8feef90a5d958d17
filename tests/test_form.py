"""Some rules for the form of the package's files that can be seen at a glance."""

import ast
import unittest
from pathlib import Path

ROOT = Path(__file__).resolve().parent.parent / "pagebureau"
LIBRARY = {"math": {"gcd", "lcm", "isqrt", "comb", "perm", "factorial"}}
BUILTINS = set(
    "len range enumerate zip min max sum abs sorted reversed int str bool bytes list tuple dict set frozenset "
    "isinstance ord repr any all divmod map iter next super property staticmethod classmethod Exception ValueError "
    "TypeError KeyError IndexError LookupError ZeroDivisionError ArithmeticError OverflowError RuntimeError "
    "NotImplementedError AttributeError StopIteration NotImplemented".split())


def nodes_of(path, kind):
    return [node for node in ast.walk(ast.parse(path.read_text())) if isinstance(node, kind)]


class FormTest(unittest.TestCase):
    def setUp(self):
        self.paths = sorted(ROOT.rglob("*.py"))
        self.assertTrue(self.paths)

    def test_files_and_folders(self):
        self.assertLessEqual(len(self.paths), 100)
        for folder in {path.parent for path in self.paths}:
            self.assertTrue((folder / "__init__.py").is_file(), folder)

    def test_lines_and_characters(self):
        for path in self.paths:
            lines = path.read_text().split("\n")
            self.assertLessEqual(len(lines), 400, path)
            for at, line in enumerate(lines, 1):
                with self.subTest(path=path.name, line=at):
                    self.assertLessEqual(len(line), 120)
                    self.assertTrue(all(" " <= sign <= "~" and sign != "%" for sign in line))

    def test_functions_are_short(self):
        for path in self.paths:
            for node in nodes_of(path, ast.FunctionDef):
                self.assertLessEqual(node.end_lineno - node.lineno, 39, (path, node.name))

    def test_imports(self):
        for path in self.paths:
            self.assertEqual([], nodes_of(path, ast.Import), path)
            for node in nodes_of(path, ast.ImportFrom):
                names = {name.name for name in node.names}
                known = node.module.startswith("pagebureau.") or names <= LIBRARY.get(node.module, set())
                self.assertTrue(known and node.level == 0, (path, node.lineno))

    def test_builtins(self):
        builtin = set(dir(__builtins__) if not isinstance(__builtins__, dict) else __builtins__)
        for path in self.paths:
            for node in nodes_of(path, ast.Name):
                self.assertTrue(node.id not in builtin - BUILTINS, (path, node.lineno, node.id))

    def called(self, path, name):
        calls = nodes_of(path, ast.Call)
        return [node for node in calls if isinstance(node.func, ast.Name) and node.func.id == name]

    def test_sorting(self):
        # Where a class compares otherwise than by one key, only plain things are sorted.
        for path in self.paths:
            for node in self.called(path, "sorted"):
                self.assertTrue(ast.unparse(node.args[0]).startswith("set("), (path, node.lineno))
            for name in ("min", "max"):
                for node in self.called(path, name):
                    by_length = [keyword for keyword in node.keywords if ast.unparse(keyword) == "key=len"]
                    plain = ast.unparse(node.args[0]).startswith(("[int(", "0", "1"))
                    self.assertTrue(by_length or plain, (path, node.lineno))
            for node in nodes_of(path, ast.Attribute):
                self.assertNotEqual("sort", node.attr, (path, node.lineno))

    def test_what_is_iterated_stands_in_a_list(self):
        for path in self.paths:
            self.assertEqual([], nodes_of(path, ast.GeneratorExp), path)
            for node in nodes_of(path, ast.Starred):
                called = isinstance(node.value, ast.Call) and ast.unparse(node.value.func) != "list"
                self.assertFalse(called, (path, node.lineno))

    def test_only_integers_are_added_in_place(self):
        for path in self.paths:
            for node in nodes_of(path, ast.AugAssign):
                self.assertIsInstance(node.value, ast.Constant, (path, node.lineno))

    def test_words_that_stand_nowhere(self):
        words = set("typing enum register mro elements open input law type id dir exec eval compile super_ vars".split())
        for path in self.paths:
            for node in nodes_of(path, (ast.Name, ast.arg, ast.FunctionDef, ast.ClassDef, ast.Attribute)):
                names = {getattr(node, field, None) for field in ("id", "arg", "name", "attr")}
                self.assertFalse(names & words, (path, node.lineno))


if __name__ == "__main__":
    unittest.main()
