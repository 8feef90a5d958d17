"""Some rules for the form of the package's files that can be seen at a glance."""

import ast
import unittest
from pathlib import Path

ROOT = Path(__file__).resolve().parent.parent / "pagebureau"
LIBRARY = {"math": {"gcd", "lcm", "isqrt", "comb", "perm", "factorial"}}
BUILTINS = set(
    "len range enumerate zip min max sum abs sorted reversed int str bool bytes list tuple dict set frozenset "
    "isinstance ord repr any all divmod map iter next super property staticmethod classmethod Exception ValueError "
    "TypeError KeyError IndexError LookupError ZeroDivisionError ArithmeticError OverflowError RuntimeError "
    "NotImplementedError AttributeError StopIteration NotImplemented".split())


CHANGING = set(
    "append clear extend insert pop remove reverse setdefault sort update add discard".split())
WALKING = {"enumerate", "zip", "reversed", "items", "keys", "values"}


def nodes_of(path, kind):
    return [node for node in ast.walk(ast.parse(path.read_text())) if isinstance(node, kind)]


def choices_of(node):
    """What an expression may stand for: the sides of a choice, or itself."""
    if isinstance(node, ast.IfExp):
        return choices_of(node.body) + choices_of(node.orelse)
    if isinstance(node, ast.BoolOp):
        return [choice for value in node.values for choice in choices_of(value)]
    return [node]


def walked_by(node):
    """The texts of what a loop over an expression walks."""
    found = []
    for choice in choices_of(node):
        if isinstance(choice, (ast.Name, ast.Attribute, ast.Subscript)):
            found.append(ast.unparse(choice))
        elif isinstance(choice, ast.Call):
            func = choice.func
            if isinstance(func, ast.Attribute) and func.attr in WALKING:
                found += walked_by(func.value)
            elif isinstance(func, ast.Name) and func.id in WALKING:
                found += [text for argument in choice.args for text in walked_by(argument)]
    return found


def changed_in(rows):
    """The texts of what some statements change."""
    found = []
    for node in [inner for row in rows for inner in ast.walk(row)]:
        if isinstance(node, ast.Call) and isinstance(node.func, ast.Attribute) and node.func.attr in CHANGING:
            found.append(ast.unparse(node.func.value))
        for target in getattr(node, "targets", []) + [getattr(node, "target", None)]:
            if isinstance(target, ast.Subscript) and not isinstance(node, (ast.For, ast.comprehension)):
                found.append(ast.unparse(target.value))
    return found


def names_by_group(function):
    """A dict from names to one that stands for all that are assigned to each other in a function."""
    groups = {}
    for node in ast.walk(function):
        if isinstance(node, ast.Assign):
            for target in node.targets:
                for choice in choices_of(node.value):
                    if not isinstance(choice, (ast.Name, ast.Attribute, ast.Subscript)):
                        continue
                    one, other = ast.unparse(target), ast.unparse(choice)
                    old, new = groups.get(one, one), groups.get(other, other)
                    groups.update({one: new, other: new})
                    groups.update({name: new for name, group in groups.items() if group == old})
    return groups


def walked_and_changed(function):
    """The rows of the loops of a function that change what they walk, also by another name for it."""
    groups = names_by_group(function)

    def grouped(texts):
        return {groups.get(text, text) for text in texts}

    loops = [node for node in ast.walk(function) if isinstance(node, ast.For)]
    return [node.lineno for node in loops if grouped(walked_by(node.iter)) & grouped(changed_in(node.body))]


OPERATORS = {
    f"__{name}__" for name in
    "lt le gt ge ne add sub mul floordiv mod pow and or xor lshift rshift radd rsub rmul rfloordiv neg pos invert abs bool contains "
    "getitem eq repr str len".split()}


class Package:
    """The functions, methods and classes of some files, and what operators and properties run of them, told by names."""

    def __init__(self, trees):
        self.classes, self.methods, self.functions, self.attributes = {}, {}, {}, set()
        for name, tree in trees.items():
            for node in ast.walk(tree):
                if isinstance(node, ast.Attribute) and isinstance(node.ctx, ast.Store):
                    self.attributes.add(node.attr)
            for node in tree.body:
                if isinstance(node, ast.FunctionDef):
                    self.functions.setdefault(node.name, []).append((name, node))
                if isinstance(node, ast.ClassDef):
                    self.classes[node.name] = (name, node)
                    for inner in node.body:
                        if isinstance(inner, ast.FunctionDef):
                            self.methods.setdefault(inner.name, []).append((name, inner))

    def roots(self):
        for name, node in self.classes.values():
            for inner in node.body:
                marked = isinstance(inner, ast.FunctionDef) and "property" in [ast.unparse(mark) for mark in inner.decorator_list]
                if marked or (isinstance(inner, ast.FunctionDef) and inner.name in OPERATORS):
                    yield name, inner

    def called(self, name, call):
        """The functions that a call in a file may run."""
        func = call.func
        if isinstance(func, ast.Attribute):
            return [] if func.attr == "__init__" else self.methods.get(func.attr, [])
        if isinstance(func, ast.Name) and func.id in self.classes:
            where, node = self.classes[func.id]
            return [(where, inner) for inner in node.body if isinstance(inner, ast.FunctionDef) and inner.name == "__init__"]
        if isinstance(func, ast.Name):
            found = self.functions.get(func.id, [])
            return [pair for pair in found if pair[0] == name or not func.id.startswith("_")]
        return []

    def run(self):
        """All functions that operators and properties run."""
        found, waiting = {}, list(self.roots())
        while waiting:
            name, node = waiting.pop()
            if id(node) not in found:
                found[id(node)] = node
                calls = [inner for inner in ast.walk(node) if isinstance(inner, ast.Call)]
                waiting += [pair for call in calls for pair in self.called(name, call)]
        return list(found.values())

    def held_calls(self):
        """The names of attributes and variables that are called in what operators and properties run."""
        found = []
        for node in self.run():
            for call in [inner for inner in ast.walk(node) if isinstance(inner, ast.Call)]:
                func = call.func
                if isinstance(func, ast.Attribute):
                    found += [func.attr] if func.attr in self.attributes else []
                elif isinstance(func, ast.Name):
                    known = func.id in BUILTINS | {"cls", "gcd", "lcm"} or func.id in self.classes or func.id in self.functions
                    found += [] if known else [func.id]
                else:
                    found.append(ast.unparse(func))
        return found

    def changes(self):
        """What is changed in what operators and properties run, but for lists and dicts that were made there."""
        found = []
        for node in [each for each in self.run() if each.name != "__init__"]:
            assigned = [inner for inner in ast.walk(node) if isinstance(inner, ast.Assign) and isinstance(inner.targets[0], ast.Name)]
            made = {inner.targets[0].id for inner in assigned if is_made(inner.value)}
            stored = [inner for inner in ast.walk(node) if isinstance(inner, (ast.Attribute, ast.Subscript)) and isinstance(inner.ctx, ast.Store)]
            found += [ast.unparse(inner) for inner in stored if ast.unparse(inner.value) not in made or isinstance(inner, ast.Attribute)]
            for call in [inner for inner in ast.walk(node) if isinstance(inner, ast.Call)]:
                func = call.func
                if isinstance(func, ast.Attribute) and func.attr in CHANGING and ast.unparse(func.value) not in made:
                    found.append(ast.unparse(func))
        return found


def is_made(value):
    """Whether a value is a new list or dict."""
    if isinstance(value, ast.Call):
        return ast.unparse(value.func) in ("list", "dict", "sorted")
    return isinstance(value, (ast.List, ast.ListComp, ast.Dict))


class FormTest(unittest.TestCase):
    def setUp(self):
        self.paths = sorted(ROOT.rglob("*.py"))
        self.assertTrue(self.paths)

    def test_files_and_folders(self):
        self.assertLessEqual(len(self.paths), 100)
        for folder in {path.parent for path in self.paths}:
            self.assertTrue((folder / "__init__.py").is_file(), folder)

    def test_lines_and_characters(self):
        for path in self.paths:
            lines = path.read_text().split("\n")
            self.assertLessEqual(len(lines), 400, path)
            for at, line in enumerate(lines, 1):
                with self.subTest(path=path.name, line=at):
                    self.assertLessEqual(len(line), 120)
                    self.assertTrue(all(" " <= sign <= "~" and sign != "%" for sign in line))

    def test_functions_are_short(self):
        for path in self.paths:
            for node in nodes_of(path, ast.FunctionDef):
                self.assertLessEqual(node.end_lineno - node.lineno, 39, (path, node.name))

    def test_imports(self):
        for path in self.paths:
            self.assertEqual([], nodes_of(path, ast.Import), path)
            for node in nodes_of(path, ast.ImportFrom):
                names = {name.name for name in node.names}
                known = node.module.startswith("pagebureau.") or names <= LIBRARY.get(node.module, set())
                self.assertTrue(known and node.level == 0, (path, node.lineno))

    def test_builtins(self):
        builtin = set(dir(__builtins__) if not isinstance(__builtins__, dict) else __builtins__)
        for path in self.paths:
            for node in nodes_of(path, ast.Name):
                self.assertTrue(node.id not in builtin - BUILTINS, (path, node.lineno, node.id))

    def called(self, path, name):
        calls = nodes_of(path, ast.Call)
        return [node for node in calls if isinstance(node.func, ast.Name) and node.func.id == name]

    def test_sorting(self):
        # Where a class compares otherwise than by one key, only plain things are sorted.
        for path in self.paths:
            for node in self.called(path, "sorted"):
                self.assertTrue(ast.unparse(node.args[0]).startswith("set("), (path, node.lineno))
            for name in ("min", "max"):
                for node in self.called(path, name):
                    by_length = [keyword for keyword in node.keywords if ast.unparse(keyword) == "key=len"]
                    plain = ast.unparse(node.args[0]).startswith(("[int(", "0", "1"))
                    self.assertTrue(by_length or plain, (path, node.lineno))
            for node in nodes_of(path, ast.Attribute):
                self.assertNotEqual("sort", node.attr, (path, node.lineno))

    def test_what_is_iterated_stands_in_a_list(self):
        for path in self.paths:
            self.assertEqual([], nodes_of(path, ast.GeneratorExp), path)
            for node in nodes_of(path, ast.Starred):
                called = isinstance(node.value, ast.Call) and ast.unparse(node.value.func) != "list"
                self.assertFalse(called, (path, node.lineno))

    def test_what_is_turned_round_is_a_list(self):
        for path in self.paths:
            for node in self.called(path, "reversed"):
                self.assertTrue(ast.unparse(node.args[0]).startswith(("list(", "range(")), (path, node.lineno))

    def test_nothing_is_added_in_place(self):
        # A class has an in-place sum, and what operators and properties call has none then.
        for path in self.paths:
            self.assertEqual([], nodes_of(path, ast.AugAssign), path)

    def test_what_a_loop_walks_is_not_changed_in_it(self):
        for path in self.paths:
            for function in nodes_of(path, ast.FunctionDef):
                self.assertEqual([], walked_and_changed(function), (path, function.name))

    def test_loops_that_change_what_they_walk_are_found(self):
        for rows in (
            ["for x in xs:", " xs.append(x)"], ["for x in enumerate(xs):", " xs[0] = x"], ["for x in d.items():", " del d[x]"],
            ["while xs:", " ys = []", " for x in xs:", "  ys.append(x)", " xs = ys"], ["ys = xs", "for x in ys:", " xs.pop()"],
            ["for x in self.rows:", " self.rows.remove(x)"], ["for x in xs if k else ys:", " if x:", "  ys.append(x)"],
            ["zs = xs or ys", "for x in zs:", " for y in ws:", "  ys.append(x)"],
        ):
            function = ast.parse("def f(self, xs, ys, d, k, ws):\n" + "\n".join(f" {row}" for row in rows)).body[0]
            self.assertEqual(1, len(walked_and_changed(function)), rows)
        for rows in (
            ["for x in list(xs):", " xs.append(x)"], ["for x in xs:", " ys.append(x)"], ["for x in xs[1:]:", " ys[0] = x"],
            ["for x in [y for y in xs]:", " xs.append(x)"],
            ["while len(xs) > k:", " xs.append(k)", " for y in ys:", "  xs.append(y)"],
        ):
            function = ast.parse("def f(self, xs, ys, k):\n" + "\n".join(f" {row}" for row in rows)).body[0]
            self.assertEqual([], walked_and_changed(function), rows)

    def test_generators_have_names_of_their_own(self):
        functions = [node for path in self.paths for node in nodes_of(path, ast.FunctionDef)]
        names = [node.name for node in functions]
        for node in functions:
            if any(isinstance(inner, (ast.Yield, ast.YieldFrom)) for inner in ast.walk(node)):
                self.assertEqual(1, names.count(node.name), node.name)

    def test_names_of_classes_and_imports_mean_nothing_else(self):
        for path in self.paths:
            taken = {name.name for node in nodes_of(path, ast.ImportFrom) for name in node.names}
            taken |= {node.name for node in nodes_of(path, ast.ClassDef)}
            for node in nodes_of(path, ast.Name):
                self.assertFalse(isinstance(node.ctx, ast.Store) and node.id in taken, (path, node.lineno, node.id))
            for node in nodes_of(path, ast.arg):
                self.assertNotIn(node.arg, taken, (path, node.lineno))

    def test_no_name_is_a_method_and_an_attribute(self):
        classes = [node for path in self.paths for node in nodes_of(path, ast.ClassDef)]
        methods = {node.name for kind in classes for node in kind.body if isinstance(node, ast.FunctionDef)}
        values = {node.targets[0].id for kind in classes for node in kind.body if isinstance(node, ast.Assign)}
        stored = [node for path in self.paths for node in nodes_of(path, ast.Attribute) if isinstance(node.ctx, ast.Store)]
        attributes = {node.attr for node in stored if not node.attr.startswith("_")}
        self.assertEqual([set()] * 3, [methods & attributes, methods & values, values & attributes])

    def test_operators_and_properties_call_nothing_that_is_held(self):
        package = Package({path: ast.parse(path.read_text()) for path in self.paths})
        self.assertLess(100, len(package.run()))
        self.assertEqual([], package.held_calls())

    def test_operators_and_properties_change_nothing(self):
        package = Package({path: ast.parse(path.read_text()) for path in self.paths})
        self.assertEqual([], package.changes())

    def test_held_calls_and_changes_are_found(self):
        other = "class Other:\n def __init__(self):\n  self.count = 0\n  self.step = None\n"
        for rows, held, changed in (
            ("class Box:\n def __or__(self, other):\n  return Book.of(other)\nclass Book:\n def of(rows):\n  return rows.count(1)\n", ["count"], []),
            ("class Box:\n @property\n def many(self):\n  return told(self)\ndef told(box):\n return box.step(1)\n", ["step"], []),
            ("class Box:\n def __eq__(self, other):\n  return other(self)\n", ["other"], []),
            ("class Box:\n def __len__(self):\n  return self.made()\n def made(self):\n  self.rows.append(1)\n", [], ["self.rows.append"]),
            ("class Box:\n def __add__(self, other):\n  other.many = 3\n  self.rows[0] = 1\n", [], ["other.many", "self.rows[0]"]),
            ("class Box:\n def __add__(self, other):\n  rows = [1]\n  rows[0] = 2\n  rows.append(3)\n  return rows\n", [], []),
            ("class Box:\n def told(self, other):\n  self.count = 3\n  return self.count(other)\n", [], []),
            ("class Box:\n def __iadd__(self, other):\n  self.rows.append(other)\n  return self\n", [], []),
        ):
            package = Package({"box.py": ast.parse(rows), "other.py": ast.parse(other)})
            self.assertEqual((held, changed), (package.held_calls(), package.changes()), rows)

    def test_tables_of_modules_hold_plain_things(self):
        for path in self.paths:
            for node in ast.parse(path.read_text()).body:
                if isinstance(node, ast.Assign):
                    inner = [each for each in ast.walk(node.value) if isinstance(each, (ast.List, ast.Dict))]
                    self.assertTrue(all(each is node.value for each in inner), (path, node.lineno))

    def test_words_that_stand_nowhere(self):
        words = set("typing enum register mro elements open input law type id dir exec eval compile super_ vars".split())
        for path in self.paths:
            for node in nodes_of(path, (ast.Name, ast.arg, ast.FunctionDef, ast.ClassDef, ast.Attribute)):
                names = {getattr(node, field, None) for field in ("id", "arg", "name", "attr")}
                self.assertFalse(names & words, (path, node.lineno))


if __name__ == "__main__":
    unittest.main()
