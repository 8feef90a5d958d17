"""The rules of form of form_rules.py, on the files of the package and on rows that break them."""

import ast
import unittest
import warnings
from pathlib import Path

import form_rules

ROOT = Path(__file__).resolve().parent.parent


def texts_of_package():
    """A dict from the full names of the modules of the package to their texts."""
    found = {}
    for path in sorted((ROOT / "pagebureau").rglob("*.py")):
        found[".".join(path.relative_to(ROOT).with_suffix("").parts).removesuffix(".__init__")] = path.read_text()
    return found


def trees_of(texts):
    return {name: ast.parse(text) for name, text in texts.items()}


def tree_of(*rows):
    return {"box": ast.parse("\n".join(rows))}


class FormRulesTest(unittest.TestCase):
    def setUp(self):
        self.texts = texts_of_package()
        self.trees = trees_of(self.texts)

    def check(self, finder, wrong, right=()):
        """Nothing is found in the package and in right rows, and something in wrong ones."""
        self.assertEqual([], finder(self.trees))
        for rows in wrong:
            self.assertNotEqual([], finder(tree_of(*rows)), rows)
        for rows in right:
            self.assertEqual([], finder(tree_of(*rows)), rows)

    def test_the_top_of_modules(self):
        self.check(
            form_rules.top_statements,
            [["NORTH, EAST = 0, 1"], ["LOW = HIGH = 0"], ["(NORTH) = EAST = 2"], ["[NORTH] = [1]"], ["A = 1", "A = 2"], ["def a():", " pass", "a = 1"],
             ["from x import a", "a = 1"], ["A = 1", "B = A.many"], ["A = len('a')"], ["A = [k for k in (1, 2)]"], ["if 1:", " A = 2"], ["A: int = 1"], ["A = 1", "A += 1"],
             ["TABLE = {}", "TABLE[1] = 2"], ["print(1)"], ["import x"], ["for A in (1, 2):", " pass"]],
            [['"""Box."""', "from x import a", "NORTH = 0", "EAST = (1, 2)", "BEYOND = 10 ** 40", "LOW = {'a': None}", "def b():", " c, d = 1, 2", "class E:", " F = 1"]])

    def test_powers(self):
        self.check(
            form_rules.powers,
            [["def f(n, k):", " return n ** k"], ["def f(n):", " return (2 * n) ** n"], ["A = 2 ** 65"], ["A = 2 ** -1"], ["def f(n):", " return n ** True"],
             ["def f(n):", " n **= n"], ["def f(n):", " return 2 ** len(n)"], ["def f(n, k):", " return n ** (1 + 1)"]],
            [["A = 10 ** 60"], ["def f(n, *k, **d):", " return f(n ** 2, *k, **d)"], ["def f(n):", " return n ** 0 + n ** 64"]])

    def test_names_that_are_walked(self):
        rows = ["class Box:", " def __iter__(self):", "  return iter(self._books)"]
        other = ["class Other:", " def __init__(self):", "  self._books = []"]
        self.check(
            form_rules.walked_names,
            [[*rows, "class Desk:", " def _books(self):", "  return []"], [*rows, "class Desk:", " @property", " def _books(self):", "  return []"],
             [*rows, "class Desk:", " _books = (1, 2)"], [*rows, "class Desk:", " @staticmethod", " def _books():", "  return []"],
             ["class Box:", " def __iter__(self):", "  return iter(self.desk.many.items())", " def many(self):", "  pass"],
             ["class Box:", " def __iter__(self):", "  return iter(self.desk.many)", "class Desk:", " def desk(self):", "  pass"]],
            [rows, [*rows, *other], ["class Box:", " def __iter__(self):", "  return iter(self.many.values())", " def values(self):", "  pass"]])
        # All classes over whose objects one can iterate are looked at.
        walked = [node for _, node in form_rules.nodes_in(self.trees, ast.FunctionDef) if node.name == "__iter__"]
        self.assertEqual(14, len(walked))

    def test_names_of_two_kinds(self):
        self.check(
            form_rules.names_of_two_kinds,
            [["class Box:", " def many(self):", "  self.many = 1"], ["class Box:", " MANY = 1", "class Other:", " def MANY(self):", "  pass"],
             ["class Box:", " @property", " def many(self):", "  return 1", "class Other:", " def many(self):", "  return 2"],
             ["class Box:", " @staticmethod", " def many():", "  return 1", "class Other:", " def __init__(self):", "  self.many = 2"],
             ["class Box:", " def _books(self):", "  return 1", "def f(other):", " other._books = 3"]],
            [["class Box:", " def many(self):", "  self.more = 1", "class Other:", " def many(self):", "  pass"]])

    def test_attributes_and_methods(self):
        self.check(
            form_rules.unknown_attributes,
            [["def f(box):", " return box.many"], ["def f(rows):", " rows.sort()"], ["def f(text):", " return text.format(1)"], ["def f(n):", " return n.bit_count()"]],
            [["class Box:", " def __init__(self):", "  self.many = 1", "def f(box):", " return box.many + len(box.rows.get(1))", "def g(box):", " box.rows = {}"]])
        self.check(
            form_rules.names_of_builtin_values,
            [["class Box:", " def encode(self):", "  pass"], ["class Box:", " def __init__(self):", "  self.real = 1"], ["class Box:", " title = 1"],
             ["class Box:", " @property", " def copy(self):", "  return 1"], ["class Box:", " def sort(self):", "  pass"]],
            [["class Box:", " def copy(self):", "  pass", " def find(self):", "  self.many = 1"]])

    def test_builtins(self):
        self.check(
            form_rules.builtins_in_other_meanings,
            [["def f(sum):", " pass"], ["def f():", " min = 1"], ["def list():", " pass"], ["class id:", " pass"], ["def f():", " return [hash for hash in ()]"],
             ["def f():", " return len"], ["A = (len, max)"], ["def f(xs):", " for next in xs:", "  pass"]],
            [["def f(xs):", " return sorted(xs, key=len) + list(xs)"], ["def f(x):", " return isinstance(x, (int, str))"], ["class E(ValueError):", " pass"],
             ["class Box:", " @property", " def f(self):", "  return 1", " def __lt__(self, other):", "  return NotImplemented"]])

    def test_names_and_words_that_are_barred(self):
        self.check(
            form_rules.names_that_are_barred,
            [["def f(id, type):", " pass"], ["def f(box):", " return box.register"], ["def f_back():", " pass"], ["open_ = 1", "def f():", " exit = 1"], ["def f(law):", " pass"],
             ["class Box:", " def __init__(self):", "  self.__many = 1"], ["def f():", " _ = 1", " return _"], ["def f():", " return g(input=1)"]],
            [["def f(pair):", " first, _ = pair", " return first"], ["class Box:", " def __init__(self):", "  super().__init__('a')"]])
        self.assertEqual([], form_rules.words_that_are_barred(self.texts))
        for text in ("# an enum", "'Flag'", "x = my_overload", "# (type)", "# Metadata", "'a dataclass'", "_walls = 1"):
            self.assertNotEqual([], form_rules.words_that_are_barred({"box": text}), text)
        self.assertEqual([], form_rules.words_that_are_barred({"box": "for at, x in enumerate(xs): flag = meta"}))

    def test_classes(self):
        box = ["class Box:", " MANY = 1"]
        self.check(
            form_rules.classes_as_values,
            [[*box, "KINDS = (Box,)"], [*box, "def f():", " return g(Box)"], [*box, "def f():", " return isinstance(Box, int)"], [*box, "def f():", " return Box"],
             [*box, "def f():", " Box.MANY = 2"], [*box, "def f():", " made = Box"]],
            [[*box, "class Case(Box):", " pass", "def f(x):", " return Box.MANY if isinstance(x, (Box, Case)) else Box()"], ["class E(ValueError):", " pass", "def f():", " try:", "  f()", " except E:", "  raise E() from None"]])
        self.check(
            form_rules.odd_double_underscores,
            [["class Box:", " def __len__(self):", "  return self.many"], ["class Box:", " def __init__(self):", "  return None"], ["class Box:", " def __getitem__(self, at):", "  return at"],
             ["class Box:", " def __iter__(self):", "  rows = self.rows", "  return iter(rows)"], ["class Box:", " def __iter__(self):", "  return iter([1])"]],
            [["class Box:", " def __len__(self):", "  return len(self.rows)", " def __getitem__(self, at):", "  return 1", " def __iter__(self):", "  raise TypeError('no')"]])

    def test_comparisons_and_errors(self):
        self.check(
            form_rules.odd_comparisons, [["def f(x):", " return x is 1"], ["def f(x, y):", " return x is not y"], ["def f(x):", " return x is ()"]],
            [["def f(x):", " return x is None or x is not True or x is False or x == 1"]])
        error = ["class E(ValueError):", " pass"]
        self.check(
            form_rules.errors_of_python,
            [["def f():", " try:", "  f()", " except ValueError:", "  pass"], ["def f():", " try:", "  f()", " except (E, KeyError):", "  pass", *error], ["def f(e):", " raise e"],
             ["def f():", " raise ValueError('x')"], ["def f():", " raise E", *error], ["def f():", " try:", "  f()", " except f.error:", "  pass"]],
            [[*error, "def f():", " try:", "  f()", " except (E, E):", "  raise", " raise E()"], ["def f():", " raise TypeError('x')"]])

    def test_what_is_iterated_at_once(self):
        self.check(
            form_rules.kept_iterators,
            [["def f(xs):", " pairs = zip(xs, xs)"], ["def f(d):", " return d.items()"], ["def f(d):", " return g(enumerate(d))"], ["def f(d):", " return set(d.values())"],
             ["def f(d):", " return reversed(zip(d, d))"], ["def f(d):", " return range(3)"], ["def f(d):", " a, b = reversed(d)"], ["def f(d):", " return [d.keys()]"]],
            [["def f(d):", " return list(d.items()) + [x for x in zip(d, d)] + sorted(list(d.values()))"], ["def f(d):", " for x in enumerate(list(reversed(d))):", "  pass", " return len(range(3))"]])

    def test_sets(self):
        self.check(
            form_rules.loose_sets,
            [["def f(xs):", " return set(xs)"], ["def f(xs):", " return list(set(xs))"], ["def f(xs):", " for x in {1, 2}:", "  pass"], ["def f(xs):", " return sorted({x for x in xs})"],
             ["def f(xs):", " return sorted(set(xs), key=len)"], ["def f(xs):", " return sorted(set(set(xs)))"], ["def f(xs):", " return len(frozenset(xs))"],
             ["def f(xs):", " seen = set()", " return seen"], ["def f(xs):", " seen = set()", " seen = set(xs)"], ["def f(xs):", " seen = {1}", " for x in seen:", "  pass"],
             ["def f(xs):", " seen = set()", " g(seen)"], ["def f(xs):", " seen = set()", " seen.update(xs)"], ["def f(self):", " self.seen = set()"]],
            [["def f(xs):", " seen = set()", " for x in xs:", "  if x not in seen:", "   seen.add(x)", " return len(seen) + sorted(seen)[0] + len(set(xs)) + sorted(set(xs))[0]"]])

    def test_stars(self):
        self.check(
            form_rules.odd_stars,
            [["def f(xs):", " return g(*list(xs))"], ["def f(xs):", " return g(*xs[1:])"], ["def f(xs):", " return g(*[x for x in xs])"], ["def f(d):", " return g(**d, a=1)"],
             ["def f(d):", " return g(**{'a': 1})"], ["class Box:", " @property", " def rows(self):", "  return []", "def f(box):", " return g(*box.rows)"], ["def f(a):", " return g(*a.b.c)"]],
            [["def f(xs, d, box):", " return g(*xs) + g(1, *box.rows) + g(**d) + [*xs[1:], *list(xs)] + g(a=1, b=2)"]])

    def test_keywords(self):
        self.check(
            form_rules.odd_keywords,
            [["def f(xs):", " return len(obj=xs)"], ["def f(x):", " return int(x, base=2)"], ["def f(x):", " return x.split(sep='a')"], ["def f(x):", " return x.told(a=1)"],
             ["def f(x):", " return sorted(x, start=1)"], ["def f(x):", " return g(self=x)"], ["class Box:", " def find(self, x):", "  pass", "def f(box):", " return box.find(x=1)"]],
            [["class Box:", " def told(self, a):", "  pass", "def f(box):", " return box.told(a=1) + g(b=2) + min([box], key=len, default=None) + sorted(box, reverse=True)"]])

    def test_methods_that_are_not_called(self):
        box = ["class Box:", " MANY = 1", " def told(self):", "  pass", " @property", " def size(self):", "  return 1", " @staticmethod", " def made():", "  pass"]
        self.check(
            form_rules.methods_as_values,
            [[*box, "def f(box):", " return box.told"], [*box, "def f(box):", " return Box.told(box)"], [*box, "def f(box):", " return box.size()"], [*box, "def f(box):", " return Box.size"],
             [*box, "def f(box):", " return g(Box.made)"], [*box, "def f(box):", " return box.MANY()"], ["def f(xs):", " add = xs.append"]],
            [[*box, "def f(box, xs):", " xs.append(Box.made() + box.made() + Box.MANY + box.size)", " return box.told()"]])

    def test_strings(self):
        self.check(
            form_rules.odd_strings,
            [["A = 'x %'"], ["A = '\\r'"], ["A = '\\xe4'"], ["A = '__odd__'"], ["A = 'x._'"], ["A = b'x'"], ["A = 1.5"], ["def f(x):", " return f'{x!a}'"],
             ["def f(x):", " return f'''{x", "}'''"], ["def f(x):", " return f'{f(f\"{x}\")}'"]],
            [["A = 'x\\n\\\\'"], ["def f(x):", " return f\"{x['a']:>5} {x!r}\""]])

    def test_names_in_comprehensions(self):
        self.check(
            form_rules.shadowing_comprehensions,
            [["def f(xs):", " return [[x for x in xs] for x in xs]"], ["def f(xs):", " for x in xs:", "  return [[x for x in xs] for y in xs]"],
             ["def f(xs, y):", " return [{y: 1 for y in xs} for x in xs]"], ["def f(xs, y):", " return lambda x: [y for y in xs]"],
             ["def f(xs):", " def g(y):", "  return [xs for xs in y]", " return g"]],
            [["def f(xs):", " return [[y for y in xs] for x in xs]"], ["def f(x):", " return [x for x in x]"], ["def f(xs):", " return [x for x in [y for y in xs]]"],
             ["def f(xs):", " a = [x for x in xs]", " return [[x for x in xs] for y in xs]"]])

    def test_targets_and_statements(self):
        self.check(
            form_rules.odd_targets,
            [["def f(box):", " box.inner.many = 1"], ["def f(box):", " box[0].many = 1"], ["def f(box):", " del box[0]"], ["def f(box):", " if (x := 1):", "  pass"],
             ["def f(a: int):", " pass"], ["def f() -> int:", " pass"], ["def f(a):", " return a / 2"], ["def f(a):", " return a % 2"], ["def f():", " global x"]],
            [["def f(box):", " box.many = 1", " box.rows[0] = 2", " return box.inner.many // 2"]])

    def test_tables_at_the_top(self):
        table = ["TABLE = {'a': 1}"]
        self.check(
            form_rules.changed_tables,
            [[*table, "def f():", " return TABLE"], [*table, "def f():", " TABLE['a'] = 2"], [*table, "def f():", " g(TABLE)"], [*table, "def f():", " x = TABLE"],
             ["ROWS = [1]", "def f():", " ROWS.append(2)"]],
            [[*table, "def f(x):", " return TABLE[x] if x in TABLE else [y for y in TABLE]"], ["ROWS = (1, 2)", "def f():", " return ROWS"]])

    def test_imports(self):
        self.assertEqual([], form_rules.rings_of_imports(self.trees))
        self.assertEqual([], form_rules.names_imported_from_elsewhere(self.trees))
        one = ["from pagebureau.a.y import g", "def f():", " return g()"]
        for other in (["from pagebureau.a.x import f", "def g():", " return f()"], ["from pagebureau.a.z import f", "def g():", " return f()"]):
            texts = {"pagebureau.a": "", "pagebureau.a.x": "\n".join(one), "pagebureau.a.y": "\n".join(other), "pagebureau.a.z": "from pagebureau.a.x import f\n"}
            self.assertIn("pagebureau.a.x", form_rules.rings_of_imports(trees_of(texts)), other)
            self.assertNotEqual([], form_rules.names_imported_from_elsewhere(trees_of(texts)))
        texts = {"pagebureau": "from pagebureau.a.x import f\n", "pagebureau.a": "", "pagebureau.a.x": "from pagebureau.a.y import g\ndef f():\n g()", "pagebureau.a.y": "def g():\n pass"}
        self.assertEqual(["pagebureau", "pagebureau.a.x"], form_rules.rings_of_imports(trees_of(texts)))
        del texts["pagebureau"]
        self.assertEqual([], form_rules.rings_of_imports(trees_of(texts)))
        for row in ("from pagebureau.a.y import h", "from pagebureau.a.y import g as k", "from pagebureau.a.y import _p", "from pagebureau.a.y import g"):
            texts["pagebureau.a.x"] = row
            self.assertNotEqual([], form_rules.names_imported_from_elsewhere(trees_of(texts)), row)

    def test_python_gives_no_warning(self):
        with warnings.catch_warnings():
            warnings.simplefilter("error")
            for name, text in self.texts.items():
                compile(text, name, "exec")

    def test_at_most_one_lambda_in_a_row(self):
        rows = [(name, node.lineno) for name, node in form_rules.nodes_in(self.trees, ast.Lambda)]
        self.assertEqual(len(rows), len(set(rows)))


if __name__ == "__main__":
    unittest.main()
