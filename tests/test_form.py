"""Some rules for the form of the package's files that can be seen at a glance."""

import ast
import unittest
from pathlib import Path

ROOT = Path(__file__).resolve().parent.parent / "pagebureau"
LIBRARY = {"math": {"gcd", "lcm", "isqrt", "comb", "perm", "factorial"}}
BUILTINS = set(
    "len range enumerate zip min max sum abs sorted reversed int str bool bytes list tuple dict set frozenset "
    "isinstance ord repr any all divmod map iter next super property staticmethod classmethod Exception ValueError "
    "TypeError KeyError IndexError LookupError ZeroDivisionError ArithmeticError OverflowError RuntimeError "
    "NotImplementedError AttributeError StopIteration NotImplemented".split())


def nodes_of(path, kind):
    return [node for node in ast.walk(ast.parse(path.read_text())) if isinstance(node, kind)]


class FormTest(unittest.TestCase):
    def setUp(self):
        self.paths = sorted(ROOT.rglob("*.py"))
        self.assertTrue(self.paths)

    def test_files_and_folders(self):
        self.assertLessEqual(len(self.paths), 100)
        for folder in {path.parent for path in self.paths}:
            self.assertTrue((folder / "__init__.py").is_file(), folder)

    def test_lines_and_characters(self):
        for path in self.paths:
            lines = path.read_text().split("\n")
            self.assertLessEqual(len(lines), 400, path)
            for at, line in enumerate(lines, 1):
                with self.subTest(path=path.name, line=at):
                    self.assertLessEqual(len(line), 120)
                    self.assertTrue(all(" " <= sign <= "~" and sign != "%" for sign in line))

    def test_functions_are_short(self):
        for path in self.paths:
            for node in nodes_of(path, ast.FunctionDef):
                self.assertLessEqual(node.end_lineno - node.lineno, 39, (path, node.name))

    def test_imports(self):
        for path in self.paths:
            self.assertEqual([], nodes_of(path, ast.Import), path)
            for node in nodes_of(path, ast.ImportFrom):
                names = {name.name for name in node.names}
                known = node.module.startswith("pagebureau.") or names <= LIBRARY.get(node.module, set())
                self.assertTrue(known and node.level == 0, (path, node.lineno))

    def test_builtins(self):
        builtin = set(dir(__builtins__) if not isinstance(__builtins__, dict) else __builtins__)
        for path in self.paths:
            for node in nodes_of(path, ast.Name):
                self.assertTrue(node.id not in builtin - BUILTINS, (path, node.lineno, node.id))


if __name__ == "__main__":
    unittest.main()
