import random
import unittest
from itertools import combinations
from time import process_time

from shares_search import (
    ALL, SETS, Told, mean, minus, on_sifted, over, plus, random_marks, random_table, random_told, share, shared,
    sized, small_tables, times, turned, zero,
)
from support import BureauCase

from pagebureau.base.errors import TooLarge
from pagebureau.base.marks import Marks
from pagebureau.shares.comparing import parting_table, same_formula, sieve_places, single_share
from pagebureau.shares.formulas import Formula
from pagebureau.shares.tables import Table

SMALL = small_tables(4)
PLACES = ["none", "part", "whole", "both"]


def written_otherwise(source, told):
    """A formula that is the same, and not larger than twice the size."""
    ways = [
        lambda: turned(turned(told)), lambda: over(times(told, 3), 3), lambda: plus(told, zero()), lambda: on_sifted(told, Marks(ALL)),
        lambda: mean(told, [Marks(ALL)]), lambda: minus(zero(), turned(told)), lambda: over(plus(told, told), 2),
        lambda: mean(told, [Marks(ALL), Marks()]), lambda: over(mean(told, [Marks(ALL)] * 2), 1),
    ]
    return source.choice(ways)()


class ComparingCase(BureauCase):
    def assert_parted(self, first, second, counts=None):
        for one, other in ((first, second), (second, first)):
            table = parting_table(one, other)
            self.assertIs(Table, type(table))
            self.assertNotEqual(one(table), other(table))
            self.assertIs(False, same_formula(one, other))
            self.assertIn(counts, (None, list(table)))
            counts = list(table)
        return counts

    def assert_same(self, first, second):
        for one, other in ((first, second), (second, first)):
            self.assertIsNone(parting_table(one, other))
            self.assertIs(True, same_formula(one, other))


class PartingTableTest(ComparingCase):
    def test_some_tables(self):
        for first, second, counts in [
            (shared("a", "a"), Formula.zero(), [1, 0, 0, 0, 0, 0]), (shared("f", "f"), Formula.zero(), [0, 0, 0, 0, 0, 1]),
            (shared("a", "ab"), shared("a", "abc"), [1, 0, 1, 0, 0, 0]), (shared("a", "b"), Formula.zero(), [1, 1, 0, 0, 0, 0]),
            (shared(ALL, ALL), shared("a", "a"), [0, 0, 0, 0, 0, 1]), (shared("b", "ab"), shared("a", "ab"), [0, 1, 0, 0, 0, 0]),
            (shared("a", "b"), shared("ab", "ab") & Marks("ab"), [0, 1, 0, 0, 0, 0]),
            (shared("a", "b") - shared("a", "a") + shared("b", "b"), shared("b", "b"), [1, 0, 0, 0, 0, 0]),
            (shared("a", ALL), shared("a", ALL).mean(Marks("abc"), Marks("def")), [1, 0, 0, 0, 0, 2]),
            (shared("bcdef", "a"), 5 * shared("a", "a"), [1, 0, 0, 0, 0, 0]),
        ]:
            self.assert_parted(first, second, counts)

    def test_ratios_that_part_late(self):
        a, b = shared("a", "a"), shared("b", "b")
        # It is 1 where both are present, else 0.
        both = a + b - shared("ab", "ab")
        # a / b + 2 * (b / a) is 3 where a is as great as b or twice as great.
        self.assert_parted(shared("a", "b") + 2 * shared("b", "a"), 3 * both, [1, 2, 0, 0, 0, 0])
        # This is 0 for the ratios 1, 2 and 1 : 2.
        formula = shared("b", "a") - shared("a", "b") + 9 * (shared("a", "ab") - a) + 9 * both // 2
        self.assert_parted(formula, Formula.zero(), [1, 3, 0, 0, 0, 0])

    def test_over_one_mark_and_over_all_six(self):
        for mark in ALL:
            counts = [int(other == mark) for other in ALL]
            self.assert_parted(shared(mark, mark), 2 * shared(mark, mark), counts)
            self.assert_same(shared(mark, mark), shared(mark, mark) & Marks(mark))
        self.assert_parted(shared("a", ALL), shared("a", "abcde"), [1, 0, 0, 0, 0, 1])
        total = Formula.zero()
        for mark in ALL:
            total = total + shared(mark, ALL)
        self.assert_same(total, shared(ALL, ALL))

    def test_all_six_marks_are_needed(self):
        # Sums with signs over the wholes that hold a: they are 0 where one of the other marks is missing.
        for others, counts in (("b", [1, 1, 0, 0, 0, 0]), ("bf", [1, 1, 0, 0, 0, 1]), ("bcd", [1, 1, 1, 1, 0, 0])):
            total = Formula.zero()
            for many in range(len(others) + 1):
                for some in combinations(others, many):
                    total = total + (-1) ** many * shared("a", "a" + "".join(some))
            self.assert_parted(total, Formula.zero(), counts)

    def test_the_first_of_all_small_tables(self):
        source = random.Random(1001)
        late = 0
        for _ in range(250):
            first = random_told(source, 6)
            second = random_told(source, 6) if source.random() < 0.6 else minus(first, random_told(source, 6 - first.size)) if first.size else zero()
            expected = next((table for table in SMALL if first.on(table) != second.on(table)), None)
            found = parting_table(first.formula, second.formula)
            if expected is not None:
                self.assert_parted(first.formula, second.formula, list(expected))
            elif found is None:
                self.assert_same(first.formula, second.formula)
            else:
                late += 1
                self.assertGreater(found.total, 4)
                self.assert_first(first, second, found)

    def assert_first(self, first, second, found):
        self.assertLessEqual(found.total, 6 + first.size + second.size)
        expected = next(table for table in small_tables(found.total) if first.on(table) != second.on(table))
        self.assertEqual(expected, found)

    def test_fewer_marks_and_greater_totals(self):
        source = random.Random(1002)
        tables = small_tables(9, "ab")
        for _ in range(200):
            first, second = random_told(source, 6, 6, "ab"), random_told(source, 6, 6, "ab")
            expected = next((table for table in tables if first.on(table) != second.on(table)), None)
            if expected is None:
                self.assert_same(first.formula, second.formula)
            else:
                self.assert_parted(first.formula, second.formula, list(expected))

    def test_formulas_that_are_written_otherwise(self):
        source = random.Random(1003)
        for _ in range(150):
            told = random_told(source, 4)
            other = written_otherwise(source, told)
            self.assert_same(told.formula, other.formula)
            self.assertIsInstance(other, Told)

    def test_some_formulas_that_are_the_same(self):
        a, b = shared("a", "abc"), shared("b", "abc")
        for first, second in [
            (a + b, shared("ab", "abc")), (a - a, Formula.zero()), (a & Marks("ab"), shared("a", "ab")), (shared("d", ""), Formula.zero()),
            (shared("abc", "abc") - a, shared("bc", "abc")), (a.mean(Marks("ad"), Marks("ad")), shared("a", "a")),
            (shared("a", "a").mean(Marks("a"), Marks("b")), (shared("a", "ab") & Marks("ab")).mean(Marks("a"), Marks("b"))),
            (shared("ab", "a") - shared("a", "a"), shared("b", "a")), (0 * a, 0 * b), (shared("", "a"), shared("a", "")),
        ]:
            self.assert_same(first, second)


class SizeTest(ComparingCase):
    def test_sums_of_sizes(self):
        for size in range(13):
            first, second = sized(size), sized(12 - size)
            if size == 6:
                self.assert_same(first, second)
            else:
                self.assert_parted(first, second, [1, 0, 0, 0, 0, 0])
        for call in (same_formula, parting_table):
            for size in range(1, 13):
                self.assert_raises(TooLarge, (13,), call, sized(size), sized(13 - size))
            self.assert_raises(TooLarge, (24,), call, sized(12), sized(12))
            self.assert_raises(TooLarge, (24,), call, 0 * sized(12), 0 * sized(12))

    def test_one_formula_twice(self):
        self.assert_same(sized(6), sized(6))
        formula = sized(7)
        self.assert_raises(TooLarge, (14,), same_formula, formula, formula)

    def test_sizes_of_12_end_soon(self):
        source = random.Random(1004)
        start = process_time()
        for _ in range(40):
            first = [share(random_marks(source), random_marks(source)).formula for _ in range(6)]
            second = source.sample(first, 6) if source.random() < 0.4 else [shared("a", ALL)] * 6
            one, other = first[0], second[0]
            for formula in first[1:]:
                one = one + formula
            for formula in second[1:]:
                other = other + formula
            if parting_table(one, other) is None:
                self.assert_same(one, other)
            else:
                self.assert_parted(one, other)
            single_share(one + other)
        self.assertLess(process_time() - start, 30)


class SingleShareTest(ComparingCase):
    def assert_share(self, part, whole, formula):
        found = single_share(formula)
        self.assertIs(tuple, type(found))
        self.assertEqual([Marks, Marks], [type(marks) for marks in found])
        self.assertEqual((part, whole), (found[0].letters, found[1].letters))

    def test_zero_in_many_forms(self):
        a = shared("a", "ab")
        for formula in (
            Formula.zero(), a - a, 0 * a, shared("", "a"), shared("a", ""), shared("", ""), a & Marks("b"), a & Marks(), a.mean(Marks("c")),
            Formula.zero().mean(Marks("a"), Marks("b")), shared("ab", "ab") - a - shared("b", "ab"), sized(6) - sized(6),
        ):
            self.assert_share("", "", formula)

    def test_all_shares(self):
        source = random.Random(1007)
        pairs = [(part, whole) for part in SETS for whole in SETS if part and whole]
        for part, whole in source.sample(pairs, 700) + [(marks, marks) for marks in SETS if marks]:
            self.assertEqual((part, whole), single_share(Formula.share(part, whole)))

    def test_shares_written_otherwise(self):
        self.assert_share("ab", "abc", shared("a", "abc") + shared("b", "abc"))
        self.assert_share("a", "ab", shared("ac", "abcd") & Marks("ab"))
        self.assert_share("c", "d", (2 * shared("c", "d") + 3 * shared("c", "d")) // 5)
        self.assert_share("b", "b", shared("abc", "bcd").mean(Marks("b"), Marks("b")))
        self.assert_share("c", "ab", shared("abc", "ab") - shared("ab", "ab"))
        self.assert_share("ab", "ab", shared("a", "ab") + shared("b", "ab"))
        self.assert_share("a", "a", (sized(12) & Marks("a")) // 12)

    def test_formulas_that_are_no_shares(self):
        for formula in (
            2 * shared("a", "ab"), -shared("a", "ab"), shared("a", "ab") // 2, shared("a", "b") + shared("b", "a"), shared("a", "a") + shared("b", "b"),
            shared("a", ALL).mean(Marks("abc"), Marks("def")), shared("a", "ab") + shared("a", "ac"), shared("a", "ab") - shared("b", "ab"),
            shared("a", "b") + shared("c", "c"), shared("ab", "ab") - 2 * shared("c", "c"), sized(12), shared("a", "a").mean(Marks("a"), Marks("b")),
            shared("ab", "ab") + shared("c", "abc"), shared("a", "ab") + shared("a", "b"), shared("a", "a") - shared("b", "b"),
        ):
            self.assertIsNone(single_share(formula))

    def test_random_formulas(self):
        source = random.Random(1005)
        found = 0
        for _ in range(300):
            told = random_told(source, 5)
            marks = single_share(told.formula)
            if marks is None:
                continue
            found += 1
            for table in [random_table(source) for _ in range(5)]:
                self.assertEqual(share(*marks).on(table), told.on(table))
            self.assertIs(bool(marks[0]), bool(marks[1]))
        self.assertGreater(found, 50)


class SievePlacesTest(ComparingCase):
    def groups(self, part, whole, sieve):
        return sieve_places(Marks(part), Marks(whole), Marks(sieve))

    def test_some_groups(self):
        for part, whole, sieve, groups in [
            # Equal.
            ("a", "a", "a", [PLACES]), ("ab", "ab", "ab", [PLACES]), ("ab", "ab", "a", [["none"], ["part"], ["whole"], ["both"]]),
            # Empty.
            ("", "ab", "a", [PLACES]), ("ab", "", "a", [PLACES]), ("a", "ab", "", [["none"], ["part", "whole", "both"]]),
            ("", "", "", [PLACES]), ("ab", "cd", "", [["none"], ["part", "whole", "both"]]),
            # Nested.
            ("a", "ab", "abc", [PLACES]), ("a", "abc", "ab", [["none", "part"], ["whole", "both"]]),
            ("ab", "abc", "a", [["none"], ["part"], ["whole"], ["both"]]), ("abc", "a", "ab", [["none", "whole"], ["part", "both"]]),
            # Apart.
            ("a", "b", "c", [["none"], ["part", "whole", "both"]]), ("a", "b", "a", [["none", "part"], ["whole", "both"]]),
            ("a", "b", "b", [["none", "whole"], ["part", "both"]]), ("a", "b", "ab", [PLACES]),
        ]:
            found = self.groups(part, whole, sieve)
            self.assertEqual(groups, found, (part, whole, sieve))
            self.assertTrue(all(type(group) is list for group in found))

    def test_held_against_same_formula(self):
        source = random.Random(1006)
        for _ in range(150):
            part, whole, sieve = (source.choice(SETS) for _ in range(3))
            formulas = [
                Formula.share(part, whole), Formula.share(part & sieve, whole), Formula.share(part, whole & sieve),
                Formula.share(part & sieve, whole & sieve),
            ]
            found = sieve_places(part, whole, sieve)
            self.assertEqual(sorted(PLACES), sorted(place for group in found for place in group))
            group_of = {place: at for at, group in enumerate(found) for place in group}
            for i, one in enumerate(PLACES):
                for j, other in enumerate(PLACES):
                    self.assertIs(same_formula(formulas[i], formulas[j]), group_of[one] == group_of[other])
            places = [[PLACES.index(place) for place in group] for group in found]
            self.assertEqual([sorted(group) for group in places], places)
            self.assertEqual(sorted(group[0] for group in places), [group[0] for group in places])


if __name__ == "__main__":
    unittest.main()
