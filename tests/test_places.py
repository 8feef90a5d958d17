import random
import unittest
from itertools import combinations, permutations
from time import process_time

from filling_search import random_filling, random_step
from support import BureauCase

from pagebureau.base.marks import Marks
from pagebureau.base.rows import Book
from pagebureau.filling.filled import trace
from pagebureau.filling.fillings import Filling
from pagebureau.filling.limits import fill_text
from pagebureau.filling.places import Extent, farthest, halting, must_stay, needless_fills, plain_order
from pagebureau.filling.race import alike_fills

TEXTS = [
    "", "drop", "down\nup", "up\ndown\ndrop", "down halt a\nup halt b", "near_above rows 1\nnear_below rows 1\ndown",
    "down rows 1\nup rows 1\ndown rows 1\nup rows 1", "drop\ndown\nup", "down halt abcdef\nup\ndown", "up\nup\nup",
]


def some_fillings(seed, count, most):
    source = random.Random(seed)
    yield from [Filling.read(text) for text in TEXTS]
    for _ in range(count):
        yield random_filling(source, most)


def pairs_by_search(filling):
    steps = list(filling)
    return [
        (i, j) for i, j in combinations(range(len(steps)), 2)
        if not alike_fills(Filling([steps[i], steps[j]]), Filling([steps[j], steps[i]]))
    ]


def without_mark(step, mark):
    way, rows, halt = step
    return (way, rows, halt.replace(mark, "") or "-")


class MustStayTest(BureauCase):
    def test_some_pairs(self):
        for text, pairs in [
            ("", []), ("down", []), ("down\nup", [(0, 1)]), ("down\ndown", []), ("down\ndown rows 1", []), ("down\ndrop", [(0, 1)]),
            ("drop\ndrop", []), ("down halt abcdef\nup", []), ("down rows 1\nup\ndrop", [(0, 1), (0, 2), (1, 2)]),
            ("down halt abc\nup halt def", [(0, 1)]), ("down\ndrop\nup halt abcdef\ndrop", [(0, 1), (0, 3)]),
            ("down halt a\ndown halt b", [(0, 1)]), ("down halt a\ndown halt ab", []), ("down rows 1 halt a\ndown rows 1 halt b", [(0, 1)]),
        ]:
            self.assertEqual(pairs, must_stay(Filling.read(text)), text)

    def test_held_against_alike_fills(self):
        for filling in some_fillings(921, 150, 5):
            found = must_stay(filling)
            self.assertEqual(pairs_by_search(filling), found)
            self.assertTrue(all(type(pair) is tuple for pair in found))


class PlainOrderTest(BureauCase):
    def test_some_orders(self):
        for text, order in [
            ("", ""), ("up halt abcdef\ndown", "down\nup halt abcdef"), ("up\ndown", "up\ndown"), ("down rows 1\ndown", "down\ndown rows 1"),
            ("up\nup rows 2\nup halt a", "up\nup rows 2\nup halt a"),
            ("up rows 2\nup\nup rows 1", "up\nup rows 1\nup rows 2"), ("drop\ndown\ndrop", "drop\ndown\ndrop"),
            ("drop\ndrop\ndown halt abcdef", "down halt abcdef\ndrop\ndrop"),
        ]:
            self.assertEqual(order, plain_order(Filling.read(text)).text())

    def test_the_least_of_all_orders(self):
        for filling in some_fillings(922, 120, 4):
            steps, pairs = list(filling), pairs_by_search(filling)
            orders = [
                [fill_text(steps[at]) for at in order] for order in permutations(range(len(steps)))
                if all(order.index(i) < order.index(j) for i, j in pairs)
            ]
            found = plain_order(filling)
            self.assertIs(Filling, type(found))
            self.assertEqual(min(orders), [fill_text(step) for step in found])
            self.assertEqual(steps, list(filling))


class NeedlessTest(BureauCase):
    def test_some_steps(self):
        for text, needless in [
            ("", []), ("down", []), ("down halt abcdef", [0]), ("down\ndown", [0, 1]), ("down\ndown rows 3", [1]), ("drop", []),
            ("drop\nup\ndrop", [1, 2]), ("down rows 1\ndown rows 1", []), ("down\nup\nnear_above", [1, 2]), ("up\nnear_below\nup", [2]),
        ]:
            self.assertEqual(needless, needless_fills(Filling.read(text)), text)

    def test_held_against_alike_fills(self):
        for filling in some_fillings(923, 150, 5):
            steps = list(filling)
            expected = [k for k in range(len(steps)) if alike_fills(filling, Filling(steps[:k] + steps[k + 1:]))]
            self.assertEqual(expected, needless_fills(filling))


class HaltingTest(BureauCase):
    def test_some_marks(self):
        for text, marks in [
            ("", "-"), ("down", "-"), ("down halt a", "a"), ("down halt abcdef", "abcdef"), ("drop\ndown halt a", "-"),
            ("down halt ab\ndown halt bc", "abc"), ("down halt ab\ndown halt b", "b"), ("down\nnear_above halt b", "b"),
            ("near_above rows 2 halt ce\nup halt ef", "cef"), ("down\ndown halt b", "-"), ("down\nup halt c\nup", "-"),
        ]:
            self.assertEqual(marks, halting(Filling.read(text)).text(), text)

    def test_held_against_alike_fills(self):
        for filling in some_fillings(924, 150, 5):
            found = halting(filling)
            self.assertIs(Marks, type(found))
            for mark in "abcdef":
                other = Filling([without_mark(step, mark) for step in filling])
                self.assertIs(not alike_fills(filling, other), mark in found)


class ExtentTest(BureauCase):
    EXTENTS = [Extent(0), Extent(1), Extent(2), Extent(7), Extent(10 ** 30), Extent()]

    def test_the_field(self):
        self.assertEqual([0, 1, 2, 7, 10 ** 30, None], [extent.amount for extent in self.EXTENTS])
        self.assertIsNone(Extent(None).amount)

    def test_comparisons(self):
        for i, one in enumerate(self.EXTENTS):
            for j, other in enumerate(self.EXTENTS):
                self.assertEqual(
                    (i == j, i != j, i < j, i <= j, i > j, i >= j),
                    (one == other, one != other, one < other, one <= other, one > other, one >= other))
        self.assertTrue(Extent() == Extent(None))
        self.assertTrue(Extent(3) == Extent(3))
        self.assertFalse(Extent() < Extent())
        self.assertTrue(Extent() <= Extent())

    def test_things_that_are_no_extents(self):
        self.assert_unequal_to_others(Extent(3), [3, None, "3", [3], (3,)])
        self.assert_unequal_to_others(Extent(), [3, None, "endless"])

    def test_sums(self):
        for one in self.EXTENTS:
            for other in self.EXTENTS:
                endless = one.amount is None or other.amount is None
                self.assertEqual(Extent(None if endless else one.amount + other.amount), one + other)
        self.assertEqual([0, None], [self.EXTENTS[0].amount, self.EXTENTS[-1].amount])

    def test_products_from_both_sides(self):
        for one in self.EXTENTS:
            for count in (0, 1, 2, 6, 10 ** 30):
                product = Extent(0) if count == 0 else Extent(None if one.amount is None else one.amount * count)
                self.assertEqual(product, one * count)
                self.assertEqual(product, count * one)
        self.assertEqual(Extent(0), Extent() * 0)
        self.assertEqual(0, (0 * Extent()).amount)
        self.assertIsNone((10 ** 30 * Extent()).amount)


def filled_in(filling, rows):
    """The greatest numbers of rows that one amount fills below and above its own row."""
    filled = [(fate[1], place) for place, fate in enumerate(trace(filling, Book(rows))) if fate[0] == "filled"]
    below = [source for source, place in filled if place > source]
    above = [source for source, place in filled if place < source]
    return tuple(max([side.count(source) for source in side], default=0) for side in (below, above))


class FarthestTest(BureauCase):
    def test_some_extents(self):
        for text, down, up in [
            ("", 0, 0), ("drop", 0, 0), ("down", None, 0), ("up", 0, None), ("near_above", None, None), ("near_below rows 4", 4, 4),
            ("down rows 6", 6, 0), ("up rows 2", 0, 2), ("down rows 6\ndown rows 6\nup rows 1", 12, 1), ("down halt abcdef", 0, 0),
            ("near_above halt abcdef\nup rows 3 halt abcde", 0, 3), ("down rows 2 halt a\ndown rows 3 halt b", 5, 0),
            ("drop\ndown\nup", 0, 0), ("down rows 1\ndrop\ndown", 1, 0), ("up rows 1\nup\nup rows 2", 0, None),
            ("\n".join(["near_below rows 6"] * 6), 36, 36), ("down rows 1\nup halt abcdef\nnear_above rows 2\ndrop\nup", 3, 2),
        ]:
            found = farthest(Filling.read(text))
            self.assertIs(tuple, type(found))
            self.assertEqual((Extent(down), Extent(up)), found, text)

    def test_held_against_books_with_one_amount(self):
        source = random.Random(925)
        for _ in range(150):
            filling = random_filling(source, 3, limits=(None, 1, 2), halts=("-", "a", "b", "ab", "abcdef"))
            best = [0, 0]
            for _ in range(150):
                rows = [(0, source.choice("abc"), None) for _ in range(16)]
                place = source.choice((0, 0, 7, 15, 15))
                rows[place] = (0, "c", 1)
                found = filled_in(filling, rows)
                extents = [extent.amount for extent in farthest(filling)]
                for side in (0, 1):
                    self.assertTrue(extents[side] is None or found[side] <= extents[side])
                    best[side] = max(best[side], found[side])
            for side in (0, 1):
                if extents[side] is None:
                    self.assertGreaterEqual(best[side], 2)
                elif extents[side] <= 2:
                    self.assertEqual(extents[side], best[side], filling.text())

    def test_rows_that_reach_as_far(self):
        # Marks at which nothing halts, chosen border by border.
        filling = Filling.read("down rows 2 halt a\ndown rows 3 halt b\ndown rows 1 halt abcde")
        rows = [(0, "a", 1)] + [(0, mark, None) for mark in "bbaaaff"]
        self.assertEqual((6, 0), filled_in(filling, rows))
        self.assertEqual((Extent(6), Extent(0)), farthest(filling))


class EndsSoonTest(BureauCase):
    def test_six_steps_with_any_limits_and_halts(self):
        source = random.Random(926)
        start = process_time()
        for limits in ((6,), (None,), (None, 1, 6)):
            for halts in (("-",), ("abcde", "abcdf", "bcdef"), ("abc", "def", "ace"), ("a", "b", "c", "d", "e", "f")):
                for _ in range(8):
                    filling = Filling([random_step(source, limits, halts, drops=False) for _ in range(6)])
                    self.assertEqual(pairs_by_search(filling), must_stay(filling))
                    self.assertTrue(alike_fills(filling, plain_order(filling)))
                    for at in needless_fills(filling):
                        self.assertIn(at, range(6))
                    self.assertTrue(halting(filling) <= Marks("abcdef"))
                    self.assertEqual(2, len(farthest(filling)))
        self.assertLess(process_time() - start, 60)


if __name__ == "__main__":
    unittest.main()
