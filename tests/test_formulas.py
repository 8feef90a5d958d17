import random
import unittest

from shares_search import (
    ALL, SETS, exact, mean, minus, on_sifted, over, plus, random_marks, random_table, random_told, share, shared,
    sized, times, turned, zero,
)
from support import BureauCase

from pagebureau.base.errors import BadDivisor, TooLarge
from pagebureau.base.fracs import Frac
from pagebureau.base.marks import Marks
from pagebureau.shares.formulas import Formula
from pagebureau.shares.tables import Table

TABLE = Table(a=1, b=2, c=3, d=4)


class FormulaCase(BureauCase):
    def assert_value(self, top, bottom, formula, table=TABLE):
        value = formula(table)
        self.assertIs(Frac, type(value))
        self.assertEqual((top, bottom), (value.top, value.bottom))


class ValueTest(FormulaCase):
    def test_shares(self):
        self.assert_value(1, 3, shared("a", "ab"))
        self.assert_value(1, 1, shared("abcd", "abcd"))
        self.assert_value(3, 10, shared("c", "abcdef"))
        self.assert_value(0, 1, shared("e", "abcdef"))
        self.assert_value(0, 1, shared("", "a"))

    def test_empty_wholes(self):
        self.assert_value(0, 1, shared("a", "ef"))
        self.assert_value(0, 1, shared("a", ""))
        self.assert_value(0, 1, shared("abcdef", "abcdef"), Table())

    def test_parts_with_marks_that_the_whole_does_not_have(self):
        self.assert_value(7, 1, shared("cd", "a"))
        self.assert_value(10, 3, shared("abcdef", "ab"))
        self.assert_value(5, 2, shared("bc", "b"))

    def test_zero(self):
        self.assert_value(0, 1, Formula.zero())
        self.assert_value(0, 1, Formula.zero() + Formula.zero())
        self.assertEqual(0, Formula.zero().size)

    def test_signs(self):
        a, b = shared("a", "ab"), shared("c", "cd")
        self.assert_value(1 * 7 + 3 * 3, 21, a + b)
        self.assert_value(1 * 7 - 3 * 3, 21, a - b)
        self.assert_value(-1, 3, -a)
        self.assert_value(5, 3, 5 * a)
        self.assert_value(5, 3, a * 5)
        self.assert_value(-2, 3, a * -2)
        self.assert_value(0, 1, 0 * a)
        self.assert_value(1, 6, a // 2)
        self.assert_value(-1, 12, a // -4)
        self.assert_value(10 ** 30, 3, 10 ** 30 * a)
        self.assert_value(1, 3 * 10 ** 30, a // 10 ** 30)

    def test_divisions_by_0(self):
        for formula in (shared("a", "b"), Formula.zero()):
            self.assert_raises(BadDivisor, (), lambda: formula // 0)

    def test_sieves(self):
        self.assert_value(1, 4, shared("ab", "abcd") & Marks("ac"))
        self.assert_value(0, 1, shared("a", "b") & Marks("a"))
        self.assert_value(0, 1, shared("a", "ab") & Marks())
        self.assert_value(1, 1, (shared("a", "ab") + shared("b", "ab")) & Marks("bc"))
        self.assert_value(2, 5, shared("b", "abcdef") & Marks("bcd") & Marks("abc"))


class MeanTest(FormulaCase):
    def test_a_mean(self):
        # On a, b, c the share of a is 1/6, on a, c, d it is 1/8; both sets count.
        self.assert_value(7, 48, shared("a", "abcdef").mean(Marks("abc"), Marks("acd")))

    def test_sets_that_count(self):
        part = shared("a", "abcdef")
        self.assert_value(1, 1, part.mean(Marks("a")))
        self.assert_value(1, 2, part.mean(Marks("a"), Marks("b")))
        self.assert_value(1, 1, part.mean(Marks("a"), Marks("e"), Marks(), Marks("ef")))
        self.assert_value(0, 1, part.mean(Marks("e"), Marks("f"), Marks("ef"), Marks()))
        self.assert_value(0, 1, part.mean(Marks("a"), Marks("b")), Table(c=1))

    def test_sets_that_are_passed_twice(self):
        part = shared("a", "abcdef")
        self.assert_value(2, 3, part.mean(Marks("a"), Marks("b"), Marks("a")))
        self.assert_value(1, 1, part.mean(Marks("a"), Marks("a")))
        self.assert_value(1, 3, part.mean(Marks("b"), Marks("a"), Marks("b")))

    def test_means_in_sieves_and_in_means(self):
        part = shared("a", "abcdef")
        groups = [Marks("ab"), Marks("cd")]
        # Sifted by c and d, only the second set counts, and there the share is 0.
        self.assert_value(0, 1, part.mean(*groups) & Marks("cd"))
        self.assert_value(1, 1, part.mean(*groups) & Marks("a"))
        self.assert_value(1, 2, part.mean(*groups) & Marks("ac"))
        self.assert_value(1, 6, part.mean(*groups))
        outer = part.mean(*groups).mean(Marks("abc"), Marks("d"))
        # On a, b, c: (1/3 + 0) / 2; on d: 0. Both count.
        self.assert_value(1, 12, outer)
        self.assertEqual(4, outer.size)

    def test_the_number_that_count_is_that_on_the_table(self):
        # Not that on the table sifted by one of the sets.
        part = shared("b", "abcdef")
        self.assert_value(1, 3, part.mean(Marks("a"), Marks("b"), Marks("c")))
        self.assert_value(1, 2, part.mean(Marks("a"), Marks("b"), Marks("c")) & Marks("bc"))

    def test_a_mean_of_zero(self):
        found = Formula.zero().mean(*[Marks(ALL)] * 6)
        self.assert_value(0, 1, found)
        self.assertEqual(0, found.size)

    def test_many_means_over_one_set(self):
        formula = shared("a", "ab")
        for _ in range(2000):
            formula = -(formula.mean(Marks("abc")) & Marks("abd"))
        self.assert_value(1, 3, formula)
        self.assertEqual(1, formula.size)


class SizeTest(FormulaCase):
    def test_sizes(self):
        one = shared("a", "b")
        self.assertEqual(1, one.size)
        self.assertEqual(1, shared("", "").size)
        self.assertEqual(2, (one - one).size)
        for same in (-one, 0 * one, one * 5, one // 3, one & Marks(), one.mean(Marks())):
            self.assertEqual(1, same.size)
        self.assertEqual(1, (one + Formula.zero()).size)
        self.assertEqual(6, one.mean(*[Marks("a")] * 6).size)
        self.assertEqual(6, (one + one).mean(Marks("a"), Marks("a"), Marks("b")).size)

    def test_sizes_of_12(self):
        for size in range(13):
            self.assertEqual(12, (sized(size) + sized(12 - size)).size)
            self.assertEqual(12, (sized(size) - sized(12 - size)).size)
        self.assertEqual(12, sized(2).mean(*[Marks("a")] * 6).size)
        self.assertEqual(12, sized(12).mean(Marks("a")).size)
        self.assertEqual(12, (sized(12) + Formula.zero()).size)

    def test_sizes_above_12(self):
        for size in range(1, 13):
            self.assert_raises(TooLarge, (13,), lambda: sized(size) + sized(13 - size))
            self.assert_raises(TooLarge, (13,), lambda: sized(size) - sized(13 - size))
        self.assert_raises(TooLarge, (24,), lambda: sized(12) + sized(12))
        self.assert_raises(TooLarge, (24,), lambda: sized(12) - sized(12))
        self.assert_raises(TooLarge, (24,), lambda: (0 * sized(12)).mean(Marks(), Marks()))
        self.assert_raises(TooLarge, (18,), sized(3).mean, *[Marks("a")] * 6)
        self.assert_raises(TooLarge, (14,), sized(7).mean, Marks("a"), Marks("b"))

    def test_what_raises_changes_nothing(self):
        formula = sized(12)
        self.assert_raises(TooLarge, (13,), lambda: formula + sized(1))
        self.assert_value(4, 1, formula)


class WholeTest(FormulaCase):
    def test_a_formula_follows_a_table_that_is_changed(self):
        formula, table = shared("a", "ab"), Table(a=1, b=1)
        self.assert_value(1, 2, formula, table)
        table["b"] = 3
        self.assert_value(1, 4, formula, table)
        self.assertEqual(Table(a=1, b=3), table)

    def test_operators_change_nothing(self):
        a, b = shared("a", "ab"), shared("b", "ab")
        for make in (lambda: a + b, lambda: a - b, lambda: -a, lambda: 3 * a, lambda: a // 2, lambda: a & Marks("a"), lambda: a.mean(Marks("a"))):
            make()
            self.assert_value(1, 3, a)
            self.assert_value(2, 3, b)

    def test_great_counts(self):
        table = Table(**{mark: 10 ** 18 for mark in ALL})
        self.assert_value(1, 6, shared("a", ALL), table)
        self.assert_value(10 ** 18, 1, shared("a", "b"), Table(a=10 ** 18, b=1))

    def test_each_operator_on_random_formulas(self):
        source = random.Random(941)
        made = [zero(), share(Marks("a"), Marks("ab"))]
        for _ in range(800):
            a, b = source.choice(made), source.choice(made)
            groups = [random_marks(source) for _ in range(source.randint(1, 3))]
            n = source.choice((-7, -1, 1, 2, 10 ** 20))
            new = [share(source.choice(SETS), source.choice(SETS)), turned(a), times(a, n), over(a, n), on_sifted(a, source.choice(SETS))]
            new += [plus(a, b), minus(a, b)] if a.size + b.size <= 12 else []
            new += [mean(a, groups)] if a.size * len(groups) <= 12 else []
            told = source.choice(new)
            self.assert_as_told(told, source)
            made.append(told)

    def test_random_formulas(self):
        source = random.Random(942)
        sizes = set()
        for _ in range(500):
            told = random_told(source, 12)
            sizes.add(told.size)
            self.assert_as_told(told, source)
        self.assertEqual(set(range(13)), sizes)

    def assert_as_told(self, told, source):
        self.assertEqual(told.size, told.formula.size)
        for _ in range(3):
            table = random_table(source)
            value = told.formula(table)
            self.assertIs(Frac, type(value))
            self.assertEqual(told.on(table), exact(value))


if __name__ == "__main__":
    unittest.main()
