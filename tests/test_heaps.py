import random
import unittest
from itertools import permutations

from heap_search import (
    all_orders, clashing_pairs, fewest_orders, gaps_of, is_order, page, random_heap,
)
from support import BureauCase

from pagebureau.base.errors import BadOrder, Clash
from pagebureau.ledger.heaps import fewest, gaps, prices, stages, toll
from pagebureau.ledger.lots import Lots

LONG = 10 ** 15 - 1


class StagesTest(BureauCase):
    def test_no_pages_and_one_page(self):
        self.assertEqual([], stages([]))
        self.assertEqual([], stages(()))
        self.assertEqual([[0]], stages([page(3, 0, 1)]))
        self.assertEqual([[0]], stages([page(3, 0, 1, "a", 5)]))

    def test_pages_that_only_touch_on_a_day(self):
        pages = [page(3, 0, 1, "a", 5), page(5, 0, 1), page(1, 0, 1, "a", 3), page(3, 7, 7), page(5, 1, 0, "b", 9)]
        self.assertEqual([[2], [3], [0], [1], [4]], stages(pages))
        self.assertEqual([[2], [3], [0], [1], [4]], stages(tuple(pages)))

    def test_several_pages_of_a_stage_ascend(self):
        pages = [page(2, 0, 1), page(1, 5, 5), page(2, 0, 1), page(1, 0, 1, "b", 1), page(2, 9, 4, "c", 2)]
        self.assertEqual([[1, 3], [0, 2, 4]], stages(pages))

    def test_stages_of_one_first_day_stand_by_their_last_day(self):
        pages = [page(1, 0, 1, "a", 10), page(1, 0, 1), page(1, 2, 2), page(10, 0, 1)]
        self.assertEqual([[1, 2], [0], [3]], stages(pages))

    def test_days_are_numbers_and_not_texts(self):
        self.assertEqual([[1], [2], [0]], stages([page(1000, 0, 1), page(9, 0, 1), page(20, 0, 1)]))

    def test_pages_that_clash(self):
        for one, two in [
            ((1, 3), (1, 3)), ((1, 3), (2, 2)), ((1, 3), (2, 5)), ((1, 4), (2, 3)), ((1, 2), (1, 5)), ((0, 9), (8, 9)),
        ]:
            first, second = page(one[0], 0, 1, "a", one[1]), page(two[0], 5, 5, "b", two[1])
            self.assert_raises(Clash, (0, 1), stages, [first, second])
            self.assert_raises(Clash, (0, 1), stages, [second, first])
            self.assert_raises(Clash, (0, 1), fewest, [second, first], 0, 1)

    def test_equal_pages_of_several_days_clash(self):
        self.assert_raises(Clash, (1, 2), stages, [page(1, 0, 1), page(1, 0, 1, "a", 2), page(1, 0, 1, "a", 2)])

    def test_the_lowest_pair_that_clashes(self):
        wide, day = page(1, 0, 1, "a", 9), page(3, 0, 1)
        self.assert_raises(Clash, (0, 2), stages, [day, day, wide, wide])
        self.assert_raises(Clash, (0, 3), stages, [wide, page(1, 0, 1), page(9, 0, 1), day, wide])
        self.assert_raises(Clash, (1, 2), stages, [page(9, 0, 1), page(2, 0, 1, "a", 4), wide, wide])
        self.assert_raises(Clash, (2, 3), fewest, [page(9, 0, 1), page(1, 0, 1), day, wide, wide], 0, 1)

    def test_random_heaps(self):
        source = random.Random(21)
        for _ in range(500):
            pages, opening, closing = random_heap(source, 6)
            pairs = clashing_pairs(pages)
            if pairs:
                self.assert_raises(Clash, pairs[0], stages, pages)
                self.assert_raises(Clash, pairs[0], fewest, pages, opening, closing)
                self.assertEqual([], all_orders(pages))
                continue
            days = sorted({(each.first_day, each.last_day) for each in pages})
            numbers = range(len(pages))
            self.assertEqual(
                [[k for k in numbers if (pages[k].first_day, pages[k].last_day) == pair] for pair in days],
                stages(pages))


class GapsTest(BureauCase):
    PAGES = [page(1, 0, 5, "a", 2), page(2, 5, 7), page(2, 9, 5), page(3, 7, 7)]

    def test_the_empty_heap(self):
        self.assertEqual([], gaps([], 4, 4, []))
        self.assertEqual([(0, 4, -4)], gaps([], 4, -4, []))
        self.assertEqual([(0, 4, -4)], gaps((), 4, -4, ()))

    def test_gaps_at_each_place(self):
        self.assertEqual([], gaps(self.PAGES[:2], 0, 7, [0, 1]))
        self.assertEqual([(0, 1, 0)], gaps(self.PAGES[:2], 1, 7, [0, 1]))
        self.assertEqual([(2, 7, 8)], gaps(self.PAGES[:2], 0, 8, [0, 1]))
        self.assertEqual([(1, 5, 9), (3, 7, 6)], gaps(self.PAGES[:3], 0, 6, [0, 2, 1]))
        self.assertEqual([(2, 7, 9), (3, 5, 7)], gaps(self.PAGES, 0, 7, [0, 1, 2, 3]))
        self.assertEqual([(2, 7, 9), (3, 5, 7)], gaps(tuple(self.PAGES), 0, 7, (0, 1, 2, 3)))
        self.assertEqual([(0, LONG, -LONG), (1, 0, 3)], gaps([page(0, -LONG, 0)], LONG, 3, [0]))

    def test_numbers_that_no_page_has(self):
        for wrong in (-1, 4, 5, 10 ** 20, True, False, None, "1", [1], 1.0):
            for at in range(4):
                order = [0, 1, 2, 3]
                order[at] = wrong
                self.assert_raises(BadOrder, (at,), gaps, self.PAGES, 0, 7, order)
            self.assert_raises(BadOrder, (4,), gaps, self.PAGES, 0, 7, [0, 1, 2, 3, wrong])
            self.assert_raises(BadOrder, (0,), gaps, [], 0, 7, [wrong])

    def test_numbers_that_stand_twice(self):
        self.assert_raises(BadOrder, (1,), gaps, self.PAGES, 0, 7, [0, 0, 1, 2, 3])
        self.assert_raises(BadOrder, (2,), gaps, self.PAGES, 0, 7, [0, 1, 1, 2])
        self.assert_raises(BadOrder, (3,), gaps, self.PAGES, 0, 7, [0, 1, 2, 1])
        self.assert_raises(BadOrder, (4,), gaps, self.PAGES, 0, 7, [0, 1, 2, 3, 3])

    def test_days_that_fall(self):
        self.assert_raises(BadOrder, (1,), gaps, self.PAGES, 0, 7, [1, 0, 2, 3])
        self.assert_raises(BadOrder, (2,), gaps, self.PAGES, 0, 7, [0, 3, 1, 2])
        self.assert_raises(BadOrder, (3,), gaps, self.PAGES, 0, 7, [0, 1, 3, 2])

    def test_pages_that_are_missing(self):
        for count in range(4):
            self.assert_raises(BadOrder, (count,), gaps, self.PAGES, 0, 7, [0, 2, 1, 3][:count])

    def test_the_first_wrong_index_decides(self):
        self.assert_raises(BadOrder, (1,), gaps, self.PAGES, 0, 7, [3, 1, 1, 9])
        self.assert_raises(BadOrder, (1,), gaps, self.PAGES, 0, 7, [3, 3, 1, 9])
        self.assert_raises(BadOrder, (2,), gaps, self.PAGES, 0, 7, [0, 1, 9, 0])
        self.assert_raises(BadOrder, (1,), gaps, self.PAGES, 0, 7, [3, 0])
        self.assert_raises(BadOrder, (0,), gaps, self.PAGES, 0, 7, [9, 9, 0])

    def test_pages_that_clash_have_no_order_and_raise_no_clash(self):
        pages = [page(1, 0, 1, "a", 3), page(2, 1, 1), page(1, 1, 2, "a", 3)]
        for order, at in [([0, 1, 2], 1), ([1, 0, 2], 1), ([0, 2, 1], 1), ([0], 1), ([], 0), ([0, 0], 1), ([5], 0)]:
            self.assert_raises(BadOrder, (at,), gaps, pages, 0, 1, order)

    def test_random_heaps(self):
        source = random.Random(22)
        for _ in range(150):
            pages, opening, closing = random_heap(source, 4)
            for order in permutations(range(len(pages))):
                if is_order(pages, order):
                    expected = gaps_of(pages, opening, closing, order)
                    self.assertEqual(expected, gaps(pages, opening, closing, list(order)))
                else:
                    falls = [at for at in range(len(order) + 1) if not is_order(pages, order[:at])]
                    self.assert_raises(BadOrder, (falls[0] - 1,), gaps, pages, opening, closing, list(order))

    def test_nothing_is_changed(self):
        pages, order = list(self.PAGES), [0, 1, 2, 3]
        first = gaps(pages, 0, 9, order)
        first.append(None)
        self.assertEqual([(2, 7, 9), (3, 5, 7), (4, 7, 9)], gaps(pages, 0, 9, order))
        self.assertEqual((self.PAGES, [0, 1, 2, 3]), (pages, order))


class FewestTest(BureauCase):
    def test_the_empty_heap(self):
        self.assertEqual(0, fewest([], 3, 3))
        self.assertEqual(1, fewest([], 3, 4))
        self.assertEqual([], prices([], 4))

    def test_one_page(self):
        for opening, closing, expected in [(1, 2, 0), (0, 2, 1), (1, 1, 1), (2, 1, 2)]:
            self.assertEqual(expected, fewest([page(1, 1, 2)], opening, closing))
        self.assertEqual([[(2, 0)]], prices([page(1, 1, 2)], 2))
        self.assertEqual([[(2, 1)]], prices([page(1, 1, 2)], 3))

    def test_prices_of_several_stages(self):
        pages = [page(1, 0, 5), page(1, 5, 0), page(1, 3, 5), page(2, 5, 9), page(2, 0, 5)]
        self.assertEqual([[(0, 0), (5, 1)], [(5, 1), (9, 0)]], prices(pages, 9))
        self.assertEqual([[(0, 1), (5, 1)], [(5, 0), (9, 1)]], prices(pages, 5))
        self.assertEqual([[(0, 1), (5, 2)], [(5, 1), (9, 1)]], prices(pages, -9))

    def test_random_heaps(self):
        source = random.Random(23)
        for _ in range(400):
            pages, opening, closing = random_heap(source, 5)
            if not clashing_pairs(pages):
                self.assertEqual(fewest_orders(pages, opening, closing)[0], fewest(pages, opening, closing))
                self.assertEqual(self.prices_by_search(pages, closing), prices(tuple(pages), closing))

    def prices_by_search(self, pages, closing):
        found = []
        for stage in stages(pages):
            last = max(pages[number].last_day for number in stage)
            days = (pages[stage[0]].first_day, last)
            later = [each for each in pages if (each.first_day, each.last_day) > days]
            ends = sorted({pages[number].closing for number in stage})
            found.append([(end, fewest_orders(later, end, closing)[0]) for end in ends])
        return found

    def test_sixteen_pages_of_one_stage(self):
        chain = [page(4, k, k + 1) for k in range(16)]
        random.Random(24).shuffle(chain)
        self.assertEqual(0, fewest(chain, 0, 16))
        self.assertEqual(1, fewest(chain, 0, 17))
        self.assertEqual(2, fewest(chain, -1, 17))
        self.assertEqual([[(k, int(k != 16)) for k in range(1, 17)]], prices(chain, 16))
        loose = [page(4, 2 * k, 2 * k + 1) for k in range(16)]
        self.assertEqual(17, fewest(loose, -1, -1))
        self.assertEqual(15, fewest(loose, 0, 31))
        self.assertEqual(16, fewest(loose, 0, 1))
        rings = [page(4, k, k) for k in range(16)]
        self.assertEqual(15, fewest(rings, 0, 1))
        self.assertEqual(16, fewest(rings, 0, 0))
        self.assertEqual(0, fewest([page(4, 7, 7)] * 16, 7, 7))

    def test_sixteen_pages_of_several_stages(self):
        pages = [page(k // 5, k, k + 1) for k in range(16)]
        self.assertEqual(0, fewest(pages, 0, 16))
        self.assertEqual(3, fewest(pages[::-1], 0, 0) + fewest(pages, 5, 0))
        pages = [page(k, LONG - k, -LONG + k) for k in range(16)]
        self.assertEqual(17, fewest(pages, 0, 0))
        self.assertEqual([[(-LONG + k, 16 - k)] for k in range(16)], prices(pages, 0))


class TollTest(BureauCase):
    def test_no_links(self):
        self.assertEqual(5, toll([], [(1, 5)], 1))
        self.assertEqual(6, toll([], [(1, 5)], 2))
        self.assertEqual(3, toll([], [(1, 5), (2, 2)], 1))

    def test_the_least_sum(self):
        links = [(0, 5), (5, 0), (3, 5)]
        self.assertEqual(1, toll(links, [(0, 0), (5, 1)], 3))
        self.assertEqual(2, toll(links, [(5, 1)], 0))
        self.assertEqual(0, toll(tuple(links), ((5, 0), (0, 7)), 3))
        self.assertEqual(-4, toll(links, [(5, -4)], 3))

    def test_told_prices_need_not_be_right(self):
        source = random.Random(25)
        for _ in range(200):
            links = [(source.randint(0, 4), source.randint(0, 4)) for _ in range(source.randint(0, 5))]
            told = [(source.randint(0, 5), source.randint(-9, 9)) for _ in range(source.randint(1, 4))]
            balance = source.randint(0, 5)
            copies = list(links), list(told)
            expected = min(price + abs(Lots(links + [(end, balance)])) for end, price in told)
            self.assertEqual(expected, toll(links, told, balance))
            self.assertEqual(copies, (links, told))

    def test_the_tolls_of_right_prices_are_prices(self):
        source = random.Random(26)
        for _ in range(200):
            pages, opening, closing = random_heap(source, 6)
            if not pages or clashing_pairs(pages):
                continue
            told = prices(pages, closing)
            parts = [[(pages[k].opening, pages[k].closing) for k in stage] for stage in stages(pages)]
            after = told[:-1] + [[(closing, 0)]]
            for at, links in enumerate(parts[1:]):
                for balance, price in told[at]:
                    self.assertEqual(price, toll(links, after[at + 1], balance))
            for balance, price in told[-1]:
                self.assertEqual(int(balance != closing), price)
            self.assertEqual(fewest_orders(pages, opening, closing)[0], toll(parts[0], after[0], opening))


if __name__ == "__main__":
    unittest.main()
