import random
import unittest
from fractions import Fraction
from time import process_time

from shares_search import (
    ALL, exact, minus, plus, random_marks, random_table, random_told, share, shared, sized, times, turned, zero,
)
from support import BureauCase

from pagebureau.base.errors import TooLarge
from pagebureau.base.fracs import Frac
from pagebureau.base.marks import Marks
from pagebureau.shares.comparing import parting_table, same_formula
from pagebureau.shares.formulas import Formula
from pagebureau.shares.mixing import bar, weights
from pagebureau.shares.tables import Table


A, B, C, ABC = shared("a", "abc"), shared("b", "abc"), shared("c", "abc"), shared("abc", "abc")


class MixingCase(BureauCase):
    def assert_weights(self, expected, wanted, told):
        found = weights(wanted, told)
        self.assertIs(list, type(found))
        self.assertTrue(all(type(weight) is Frac for weight in found))
        if expected is not None:
            self.assertEqual(expected, found)
        self.assertIsNone(bar(wanted, told))
        return found

    def assert_bar(self, wanted, told):
        self.assertIsNone(weights(wanted, told))
        found = bar(wanted, told)
        self.assertIs(list, type(found))
        for pair in found:
            self.assertEqual((tuple, Frac, Table), (type(pair), type(pair[0]), type(pair[1])))
            self.assertNotEqual(0, pair[0])
        tables = [list(table) for _, table in found]
        self.assertEqual(len({tuple(counts) for counts in tables}), len(tables))
        self.assertLessEqual(len(found), len(told) + 1)
        for formula, total in [(formula, 0) for formula in told] + [(wanted, 1)]:
            self.assertEqual(total, sum(exact(factor) * exact(formula(table)) for factor, table in found))


class WeightsTest(MixingCase):
    def test_some_mixtures(self):
        self.assert_weights([1, 1, 1], ABC, [A, B, C])
        self.assert_weights([1, -1, -1], C, [ABC, A, B])
        self.assert_weights([Frac(2, 3)], 2 * A // 3, [A])
        self.assert_weights([Frac(-5, 2), 0], -5 * A, [2 * A, B])
        self.assert_weights([Frac(1, 2), Frac(1, 2)], A, [A + B, A - B])
        self.assert_weights([0, 1], B, [A, B])
        self.assert_weights([10 ** 20, Frac(1, 10 ** 20)], 10 ** 20 * A + B // 10 ** 20, [A, B])

    def test_told_formulas_that_are_mixtures_of_those_before(self):
        self.assert_weights([1, 0], A, [A, A])
        self.assert_weights([Frac(1, 2), 0], A, [2 * A, A])
        self.assert_weights([0, 1, 0], A, [Formula.zero(), A, Formula.zero()])
        self.assert_weights([1, 1, 0, 1], ABC, [A, B, A + B, C])
        self.assert_weights([1, 0, 1, 1, 0], ABC, [A, 2 * A, B, C, shared("ab", "abc")])
        self.assert_weights([0, 0, 1], A, [A - A, shared("a", ""), A])
        self.assert_weights([1, 0], ABC, [ABC, A & Marks()])

    def test_a_wanted_formula_that_is_0(self):
        for wanted in (Formula.zero(), A - A, 0 * A, shared("a", "")):
            self.assert_weights([], wanted, [])
            self.assert_weights([0, 0], wanted, [A, B])
            self.assert_weights([0, 0], wanted, [A, A])
            self.assert_weights([0], wanted, [Formula.zero()])

    def test_a_tuple_of_told_formulas(self):
        self.assert_weights([1, 1, 1], ABC, (A, B, C))
        self.assert_bar(shared("d", "d"), (A, B))

    def test_200_told_formulas_of_size_0(self):
        zeros = [Formula.zero()] * 99
        self.assert_weights([0] * 99 + [1] + [0] * 100, A, [*zeros, A, *zeros, Formula.zero()])
        self.assert_bar(A, [*zeros, B, *zeros])


class BarTest(MixingCase):
    def test_no_told_formula(self):
        for wanted in (A, shared("a", "a"), shared("a", "b") - shared("c", "b"), -A):
            self.assert_bar(wanted, [])
            (factor, table), = bar(wanted, [])
            self.assertEqual(1, exact(factor) * exact(wanted(table)))

    def test_some_bars(self):
        for wanted, told in [
            (A, [B]), (A, [B, C]), (shared("a", "a"), [A, B, C]), (shared("a", "ab"), [shared("a", "abc")]), (A, [Formula.zero()]), (A, [0 * A, B]),
            (A, [A + B]), (shared("a", "b"), [shared("b", "a"), shared("a", "a"), shared("b", "b"), shared("ab", "ab")]),
            (shared("f", ALL), [shared(mark, ALL) for mark in "abcde"]), (A, [A.mean(Marks("ab"), Marks("c"))]), (A, [B, B, 2 * B]),
        ]:
            self.assert_bar(wanted, told)

    def test_one_table_more_than_told_formulas_may_be_needed(self):
        # On each single table some multiple of the told formula is the wanted one.
        self.assert_bar(shared("a", "b"), [shared("a", "b") + shared("a", "c") * 2 - shared("a", "bc")])

    def test_what_comes_is_new(self):
        found = bar(A, [B])
        for _, table in found:
            table["a"] = 77
        found.clear()
        self.assert_bar(A, [B])


class BothTest(MixingCase):
    def test_random_mixtures(self):
        source = random.Random(1011)
        for _ in range(60):
            told = [random_told(source, 2, 3) for _ in range(source.randint(0, 3))]
            wanted = zero()
            for formula in told:
                wanted = source.choice((plus, minus))(wanted, times(formula, source.randint(-3, 3)))
            source.shuffle(told)
            found = self.assert_weights(None, wanted.formula, [formula.formula for formula in told])
            self.assert_mixed(found, wanted, told, source)

    def assert_mixed(self, found, wanted, told, source):
        self.assertEqual(len(told), len(found))
        for _ in range(8):
            table = random_table(source)
            self.assertEqual(wanted.on(table), sum((exact(w) * f.on(table) for w, f in zip(found, told)), Fraction(0)))
        for at, formula in enumerate(told):
            if weights(formula.formula, [before.formula for before in told[:at]]) is not None:
                self.assertEqual(0, found[at])

    def test_weights_or_a_bar_never_both(self):
        source = random.Random(1012)
        bars = 0
        for _ in range(150):
            told, left = [], 12
            wanted = random_told(source, source.randint(0, 5))
            left -= wanted.size
            for _ in range(source.randint(0, 5)):
                told.append(random_told(source, min(3, left), 4))
                left -= told[-1].size
            if source.random() < 0.2 and told and told[0].size <= left:
                told.append(turned(told[0]))
            formulas = [formula.formula for formula in told]
            found = weights(wanted.formula, formulas)
            if found is None:
                bars += 1
                self.assert_bar(wanted.formula, formulas)
            else:
                self.assert_weights(found, wanted.formula, formulas)
                self.assert_mixed(found, wanted, told, source)
        self.assertGreater(bars, 40)

    def test_one_told_formula_that_is_the_same(self):
        source = random.Random(1013)
        for _ in range(40):
            one, other = random_told(source, 4).formula, random_told(source, 4).formula
            if same_formula(one, other) and parting_table(one, Formula.zero()) is not None:
                self.assert_weights([1], one, [other])
            self.assertIs(weights(one, [other]) is None, bar(one, [other]) is not None)


class SizeTest(MixingCase):
    def test_sums_of_sizes(self):
        for call in (weights, bar):
            for size in range(1, 13):
                self.assert_raises(TooLarge, (13,), call, sized(size), [sized(13 - size)])
                self.assert_raises(TooLarge, (13,), call, sized(size), [Formula.zero()] * 5 + [sized(1)] * (13 - size))
            self.assert_raises(TooLarge, (36,), call, sized(12), [sized(12), sized(12)])
            self.assert_raises(TooLarge, (24,), call, 0 * sized(12), [0 * sized(12)])
            self.assert_raises(TooLarge, (13,), call, Formula.zero(), [sized(1)] * 13)

    def test_sizes_of_12_end_soon(self):
        source = random.Random(1014)
        start = process_time()
        self.assert_weights([1] + [0] * 10, sized(1), [sized(1)] * 11)
        self.assert_weights([], 0 * sized(12), [])
        self.assert_bar(sized(12), [])
        self.assert_bar(shared("f", "f"), [shared(mark, ALL) for mark in ALL] + [shared(mark, "abcde") for mark in "abcde"])
        for letters in ("ab", "abc", ALL):
            for _ in range(12):
                told = [share(random_marks(source, letters), random_marks(source, letters)).formula for _ in range(11)]
                wanted = share(random_marks(source, letters), random_marks(source, letters)).formula
                if weights(wanted, told) is None:
                    self.assert_bar(wanted, told)
                else:
                    self.assert_weights(None, wanted, told)
        self.assertLess(process_time() - start, 60)


if __name__ == "__main__":
    unittest.main()
