import random
import unittest
from itertools import combinations

from heap_search import clashing_pairs, fewest_orders, gaps_of, page, random_page
from support import BureauCase

from pagebureau.base.errors import Clash, NoRow, TooLarge
from pagebureau.base.rows import Book
from pagebureau.ledger.mending import Mended, copies, lean
from pagebureau.ledger.pages import Page


def copies_by_search(pages):
    lines = [list(each) for each in pages]
    return [number for number in range(len(pages)) if lines[number] in lines[:number]]


def lean_by_search(pages, opening, closing):
    """What is left out, and the ascending list of the fewest orders of the rest, in numbers of all pages."""
    doubles = copies_by_search(pages)
    wide = [number for number in doubles if pages[number].first_day < pages[number].last_day]
    loose = [number for number in doubles if number not in wide]
    found = []
    for many in range(len(loose) + 1):
        for some in combinations(loose, many):
            numbers = [number for number in range(len(pages)) if number not in wide and number not in some]
            rest = [pages[number] for number in numbers]
            count, orders = fewest_orders(rest, opening, closing)
            named = [[numbers[at] for at in order] for order in orders]
            found.append((count, many, list(some), sorted(wide + list(some)), named))
    return min(found)[3:]


def random_pages_with_copies(source):
    days = [1, 2, 3][:source.randint(1, 3)]
    balances = list(range(source.randint(2, 4)))
    pages = []
    for _ in range(source.randint(0, 3)):
        pages += [random_page(source, days, balances)] * source.choice([1, 1, 2, 3, 4])
    pages = [Page(list(each)) for each in pages[:6]]
    source.shuffle(pages)
    return pages, source.choice(balances), source.choice(balances)


class CopiesTest(BureauCase):
    def test_copies_are_pages_that_equal_a_lower_one(self):
        one, two = page(1, 0, 5), page(1, 0, 5, "b")
        self.assertEqual([], copies([]))
        self.assertEqual([], copies([one, two]))
        self.assertEqual([2, 3, 4], copies((one, two, page(1, 0, 5), page(1, 0, 5, "b"), one)))
        self.assertEqual([1], copies([page(1, 0, 5, "a", 3), page(1, 0, 5, "a", 3), page(1, 0, 5, "a", 4)]))

    def test_pages_of_the_same_opening_and_closing_need_not_be_equal(self):
        self.assertEqual([], copies([page(1, 0, 5), Page([(1, "a", 2, 2), (1, "a", 3, 5)]), page(2, 0, 5)]))
        self.assertEqual([], copies([Page([(1, "a", 0, 5)]), Page([(1, "a", None, 5)])]))


class LeanTest(BureauCase):
    def test_nothing_to_leave_out(self):
        self.assertEqual([], lean([], 0, 1))
        self.assertEqual([], lean([page(1, 0, 5), page(1, 5, 0)], 3, 4))

    def test_copies_that_close_a_ring_stay(self):
        there, back = page(1, 0, 5), page(1, 5, 0)
        self.assertEqual([], lean([there, back, there], 0, 5))
        self.assertEqual([2], lean([there, back, there], 0, 0))
        self.assertEqual([], lean([there, back, there, back], 0, 0))
        self.assertEqual([3], lean([there, back, there, back], 0, 5))

    def test_as_many_pages_as_possible_stay(self):
        self.assertEqual([], lean([page(1, 0, 0)] * 3, 0, 0))
        self.assertEqual([], lean([page(1, 4, 4)] * 3, 0, 0))
        self.assertEqual([1, 2], lean([page(1, 0, 5)] * 3, 0, 5))

    def test_of_several_sets_the_least_list_is_left_out(self):
        there, back = page(1, 0, 5), page(1, 5, 0)
        self.assertEqual([1], lean([there, there, there, back], 0, 5))
        self.assertEqual([1, 2], lean([there, there, there, there, back], 0, 5))
        self.assertEqual([3], lean([there, back, back, there, there], 0, 0))
        self.assertEqual([2], lean([there, back, back, there, back], 0, 0))

    def test_copies_over_several_days_are_always_left_out(self):
        wide = page(1, 0, 0, "a", 3)
        self.assertEqual([1, 2, 3], lean([wide] * 4, 0, 0))
        self.assertEqual(list(range(1, 16)), lean([wide] * 16, 0, 0))
        there = page(3, 0, 5)
        self.assertEqual([1, 3], lean([wide, wide, there, there], 0, 5))
        self.assertEqual([2, 3], lean([wide, there, there, wide], 0, 5))

    def test_pages_that_clash_and_are_no_copies(self):
        wide, day = page(1, 0, 0, "a", 3), page(2, 0, 0)
        for call in (lean, Mended):
            self.assert_raises(Clash, (0, 2), call, [wide, wide, day, day], 0, 0)
            self.assert_raises(Clash, (0, 2), call, [day, day, wide, wide], 0, 0)
            self.assert_raises(Clash, (1, 3), call, [page(3, 0, 0), wide, wide, day, day], 0, 0)
            self.assert_raises(Clash, (0, 1), call, [wide, page(1, 0, 0, "b", 3), wide], 0, 0)

    def test_six_and_seven_copies_of_pages_of_one_day(self):
        for call in (lean, Mended):
            self.assert_raises(TooLarge, (7,), call, [page(1, 0, 0)] * 8, 0, 0)
            self.assert_raises(TooLarge, (15,), call, [page(1, 0, 0)] * 16, 0, 0)
            self.assert_raises(TooLarge, (7,), call, [page(1, 0, 0)] * 5 + [page(2, 0, 0)] * 4, 0, 0)
        self.assertEqual([], lean([page(1, 0, 0)] * 7, 0, 0))
        self.assertEqual([1, 2, 3, 4, 5, 6], lean([page(1, 0, 5)] * 7, 0, 5))
        self.assertEqual([1, 2, 3, 5, 6, 7], lean([page(1, 0, 5)] * 4 + [page(2, 5, 0)] * 4, 0, 0))
        # Beside loose pages one copy costs no more than none.
        others = [page(1, 2 * k + 7, 2 * k + 8) for k in range(9)]
        self.assertEqual([10, 11, 12, 13, 14], lean(others + [page(1, 0, 5)] * 7, 0, 5))

    def test_only_copies_of_pages_of_one_day_are_counted(self):
        wide = page(1, 0, 0, "a", 3)
        self.assertEqual(list(range(8, 15)), lean([page(1, 0, 0)] * 7 + [wide] * 8, 0, 0))
        self.assert_raises(TooLarge, (7,), lean, [page(1, 0, 0)] * 8 + [wide] * 8, 0, 0)

    def test_a_clash_is_raised_before_too_many_copies(self):
        day, wide = page(2, 0, 0), page(1, 0, 0, "a", 3)
        for call in (lean, Mended):
            self.assert_raises(Clash, (0, 8), call, [day] * 8 + [wide], 0, 0)

    def test_random_heaps(self):
        source = random.Random(41)
        for _ in range(700):
            pages, opening, closing = random_pages_with_copies(source)
            doubles = copies_by_search(pages)
            self.assertEqual(doubles, copies(pages))
            pairs = clashing_pairs(pages, [number for number in range(len(pages)) if number not in doubles])
            if pairs:
                self.assert_raises(Clash, pairs[0], lean, pages, opening, closing)
                self.assert_raises(Clash, pairs[0], Mended, pages, opening, closing)
                continue
            left_out, orders = lean_by_search(pages, opening, closing)
            self.assertEqual(left_out, lean(tuple(pages), opening, closing))
            mended = Mended(pages, opening, closing)
            self.assertEqual((left_out, orders[0]), (mended.left_out, mended.order))
            self.assertIs(len(orders) == 1, mended.sure)
            self.assertEqual(gaps_of(pages, opening, closing, orders[0]), mended.gaps)
            rows = [(number, at, line[:3]) for number in orders[0] for at, line in enumerate(pages[number])]
            self.assertEqual([row for _, _, row in rows], list(mended.book))
            self.assertEqual([pair[:2] for pair in rows], [mended.source(place) for place in range(len(rows))])


class MendedTest(BureauCase):
    def test_the_empty_heap(self):
        mended = Mended([], 3, 4)
        self.assertEqual(([], [], [(0, 3, 4)], Book()), (mended.left_out, mended.order, mended.gaps, mended.book))
        self.assertIs(True, mended.sure)
        self.assert_raises(NoRow, (0,), mended.source, 0)

    def test_its_fields(self):
        first = Page([(1, "a", 4, 4), (1, "b", None, 4)])
        wide = Page([(1, "c", -4, 0), (2, "a", 9, 9)])
        mended = Mended([wide, first, wide, first], 0, 8)
        self.assertEqual([2, 3], mended.left_out)
        self.assertEqual([1, 0], mended.order)
        self.assertEqual([(2, 9, 8)], mended.gaps)
        self.assertIs(Book, type(mended.book))
        self.assertEqual([(1, "a", 4), (1, "b", None), (1, "c", -4), (2, "a", 9)], list(mended.book))
        self.assertIs(True, mended.sure)
        self.assertEqual([(1, 0), (1, 1), (0, 0), (0, 1)], [mended.source(place) for place in range(4)])
        for place in (-1, -4, 4, 10 ** 20):
            self.assert_raises(NoRow, (place,), mended.source, place)

    def test_sure(self):
        self.assertIs(False, Mended([page(1, 0, 0), page(1, 0, 0, "b")], 0, 0).sure)
        self.assertIs(False, Mended([page(1, 0, 0)] * 2, 0, 0).sure)
        self.assertIs(True, Mended([page(1, 0, 5)] * 2, 0, 5).sure)
        self.assertIs(True, Mended([page(1, 0, 5), page(1, 5, 0)], 0, 0).sure)
        self.assertIs(False, Mended([page(1, 0, 5), page(1, 5, 0)], 1, 1).sure)

    def test_it_keeps_nothing_of_its_arguments(self):
        pages = [page(1, 0, 5), page(1, 5, 0)]
        mended = Mended(pages, 0, 0)
        pages.reverse()
        pages.pop()
        self.assertEqual([(1, "a", 5), (1, "a", -5)], list(mended.book))
        self.assertEqual((0, 0), mended.source(0))

    def test_sixteen_pages_with_six_copies(self):
        pages = [page(1, k, k + 1) for k in range(10)]
        mended = Mended(pages + pages[:6], 0, 10)
        self.assertEqual(list(range(10, 16)), mended.left_out)
        self.assertEqual(list(range(10)), mended.order)
        self.assertEqual(([], True), (mended.gaps, mended.sure))

    def test_sixty_lines(self):
        pages = [Page([(k, "a", 1, 15 * k + at + 1) for at in range(15)]) for k in range(4)]
        mended = Mended(pages[::-1], 0, 60)
        self.assertEqual([3, 2, 1, 0], mended.order)
        self.assertEqual((60, (0, 14)), (len(mended.book), mended.source(59)))
        self.assert_raises(NoRow, (60,), mended.source, 60)


if __name__ == "__main__":
    unittest.main()
