import random
import unittest
from itertools import islice, product

from shares_search import ALL, SETS, random_table, table_of
from support import BureauCase

from pagebureau.base.errors import BadAmount, NoMark
from pagebureau.base.marks import Marks
from pagebureau.base.rows import Book
from pagebureau.shares.tables import Table, tables_with

MOST = 10 ** 18
BAD_COUNTS = (-1, MOST + 1, -10 ** 40, 10 ** 40, True, False)
NO_MARKS = ("", "g", "A", "ab", "aa", " ", "-", "abcdef", "total", "%")


class MakingTest(BureauCase):
    def test_counts(self):
        self.assertEqual([0] * 6, list(Table()))
        self.assertEqual([3, 0, 1, 0, 0, 0], list(Table(a=3, c=1)))
        self.assertEqual([3, 0, 1, 0, 0, 0], list(Table(c=1, a=3)))
        self.assertEqual([1, 2, 3, 4, 5, 6], list(Table(f=6, a=1, e=5, b=2, d=4, c=3)))
        self.assertEqual([MOST] * 6, list(Table(**{mark: MOST for mark in ALL})))

    def test_the_class_value(self):
        self.assertEqual(1000000000000000000, Table.MOST)
        self.assertEqual(MOST, Table().MOST)

    def test_names_that_are_no_marks(self):
        for name in NO_MARKS:
            self.assert_raises(NoMark, (name,), Table, **{name: 0})
            self.assert_raises(NoMark, (name,), Table, **{"b": 1, name: 5, "h": 2, "a": -1})
        self.assert_raises(NoMark, ("x",), Table, b=-1, x=0, a=-1, y=0)
        self.assert_raises(NoMark, ("y",), Table, y=0, x=0)

    def test_counts_out_of_range(self):
        for amount in BAD_COUNTS:
            for mark in ALL:
                self.assert_raises(BadAmount, (mark, amount), Table, **{mark: amount})
        self.assert_raises(BadAmount, ("b", -1), Table, f=-5, b=-1, c=-2)
        self.assert_raises(BadAmount, ("a", MOST + 1), Table, f=-5, b=-1, a=MOST + 1)

    def test_tables_of_books(self):
        first = Book([(0, "a", 1), (0, "b", None), (3, "a", None)])
        self.assertEqual([0] * 6, list(Table.of()))
        self.assertEqual([0] * 6, list(Table.of(Book())))
        self.assertEqual([2, 1, 0, 0, 0, 0], list(Table.of(first)))
        self.assertEqual([4, 2, 0, 0, 0, 1], list(Table.of(first, Book([(9, "f", 2)]), first, Book())))
        self.assertIs(Table, type(Table.of(first)))
        self.assertEqual(3, len(first))


class ChangingTest(BureauCase):
    def test_reading(self):
        table = Table(a=1, b=2, f=6)
        self.assertEqual([1, 2, 0, 0, 0, 6], [table[mark] for mark in ALL])
        for name in NO_MARKS:
            self.assert_raises(NoMark, (name,), lambda: table[name])

    def test_put_and_item_assignment(self):
        table = Table(a=1)
        self.assertIsNone(table.put("a", 5))
        table["f"] = MOST
        table.put("b", 0)
        self.assertEqual([5, 0, 0, 0, 0, MOST], list(table))
        table["a"] = 0
        self.assertEqual([0, 0, 0, 0, 0, MOST], list(table))

    def test_what_raises_changes_nothing(self):
        table = Table(a=1, d=4)
        for name in NO_MARKS:
            for amount in (5, *BAD_COUNTS):
                self.assert_raises(NoMark, (name,), table.put, name, amount)
                self.assert_raises(NoMark, (name,), table.__setitem__, name, amount)
        for amount in BAD_COUNTS:
            for mark in ALL:
                self.assert_raises(BadAmount, (mark, amount), table.put, mark, amount)
                self.assert_raises(BadAmount, (mark, amount), table.__setitem__, mark, amount)
        self.assertEqual([1, 0, 0, 4, 0, 0], list(table))

    def test_iteration_goes_on_over_the_six_counts(self):
        table = Table(a=1, c=3)
        self.assertEqual([1, 0, 3, 0, 0, 0], [count for count in table])
        told = list(table)
        told[0] = 9
        self.assertEqual(1, table["a"])


class OperatorTest(BureauCase):
    def test_sums(self):
        self.assertEqual(Table(a=4, b=2, c=5), Table(a=1, b=2) + Table(a=3, c=5))
        self.assertEqual(Table(a=MOST), Table(a=MOST - 1) + Table(a=1))
        self.assert_raises(BadAmount, ("b", MOST + 1), lambda: Table(a=1, b=MOST, f=MOST) + Table(b=1, f=MOST))
        self.assert_raises(BadAmount, ("a", 2 * MOST), lambda: Table(a=MOST) + Table(a=MOST, b=1))

    def test_products_from_both_sides(self):
        table = Table(b=2, e=5)
        for n in (0, 1, 3, 10 ** 17):
            for product_of in (n * table, table * n):
                self.assertEqual([0, 2 * n, 0, 0, 5 * n, 0], list(product_of))
        for n in (-1, -10 ** 30, 10 ** 18, 10 ** 30):
            self.assert_raises(BadAmount, ("b", 2 * n), lambda: n * table)
            self.assert_raises(BadAmount, ("b", 2 * n), lambda: table * n)
        for n in (-1, 0, 10 ** 30):
            self.assertEqual(Table(), n * Table())
        self.assert_raises(BadAmount, ("e", 10 ** 18 + 2), lambda: Table(d=1, e=5 * 10 ** 17 + 1) * 2)

    def test_sieves(self):
        table = Table(a=1, b=2, c=3, d=4, e=5, f=6)
        for marks in SETS:
            self.assertEqual([table[mark] if mark in marks else 0 for mark in ALL], list(table & marks))
        self.assertEqual([1, 2, 3, 4, 5, 6], list(table))

    def test_equality(self):
        self.assertTrue(Table(a=1, b=0) == Table(b=0, a=1))
        self.assertTrue(Table() == Table(f=0))
        self.assertFalse(Table(a=1) == Table(b=1))
        self.assert_unequal_to_others(Table(a=1), [[1, 0, 0, 0, 0, 0], {"a": 1}, None, 1, Marks("a")])

    def test_operators_make_new_tables(self):
        table = Table(a=1)
        for other in (table + Table(), table * 1, 1 * table, table & Marks(ALL)):
            self.assertEqual(table, other)
            other["a"] = 7
            self.assertEqual(1, table["a"])

    def test_totals_and_present_marks(self):
        self.assertEqual((0, Marks()), (Table().total, Table().present))
        table = Table(b=2, e=MOST)
        self.assertEqual((MOST + 2, Marks("be")), (table.total, table.present))
        table.put("b", 0)
        self.assertEqual((MOST, Marks("e")), (table.total, table.present))
        self.assertEqual(6 * MOST, Table(**{mark: MOST for mark in ALL}).total)
        self.assertIs(Marks, type(table.present))

    def test_random_tables(self):
        source = random.Random(931)
        for _ in range(200):
            one, other = random_table(source, (0, 1, 7)), random_table(source, (0, 2, 9))
            self.assertEqual([a + b for a, b in zip(one, other)], list(one + other))
            self.assertEqual(one + other, other + one)
            self.assertEqual(sum(one), one.total)
            self.assertEqual(one & one.present, one)


class TablesWithTest(BureauCase):
    def test_no_marks(self):
        self.assertEqual([Table()], list(tables_with(0, Marks())))
        for total in (1, 2, 7, MOST):
            self.assertEqual([], list(tables_with(total, Marks())))

    def test_total_0(self):
        for marks in SETS:
            self.assertEqual([Table()], list(tables_with(0, marks)))

    def test_some_lists(self):
        self.assertEqual([[0, 0, 0, 3, 0, 0]], [list(table) for table in tables_with(3, Marks("d"))])
        self.assertEqual([[0, 0, 0, 0, 2, 0], [0, 1, 0, 0, 1, 0], [0, 2, 0, 0, 0, 0]], [list(t) for t in tables_with(2, Marks("be"))])

    def test_complete_and_ascending(self):
        for marks in SETS:
            for total in range(5):
                lists = [
                    list(some) for some in product(range(total + 1), repeat=6)
                    if sum(some) == total and all(count == 0 or mark in marks for count, mark in zip(some, ALL))
                ] if len(marks) < 4 or total < 3 else None
                found = [list(table) for table in tables_with(total, marks)]
                self.assertEqual(sorted(found), found)
                self.assertEqual(len({tuple(some) for some in found}), len(found))
                if lists is not None:
                    self.assertEqual(lists, found)

    def test_great_totals(self):
        self.assertEqual([[0, MOST, 0, 0, 0, 0]], [list(table) for table in tables_with(MOST, Marks("b"))])
        first = list(islice(tables_with(MOST, Marks(ALL)), 3))
        self.assertEqual([[0] * 5 + [MOST], [0, 0, 0, 0, 1, MOST - 1], [0, 0, 0, 0, 2, MOST - 2]], [list(table) for table in first])

    def test_a_table_that_came_may_be_changed(self):
        found = []
        for table in tables_with(3, Marks("abf")):
            self.assertIs(Table, type(table))
            found.append(list(table))
            for mark in ALL:
                table[mark] = 77
        self.assertEqual([list(table) for table in tables_with(3, Marks("abf"))], found)
        self.assertEqual(10, len(found))

    def test_tables_from_counts(self):
        self.assertEqual(table_of([1, 2, 3, 4, 5, 6]), Table(a=1, b=2, c=3, d=4, e=5, f=6))


if __name__ == "__main__":
    unittest.main()
