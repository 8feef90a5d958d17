import random
import unittest

from heap_search import clashing_pairs, fewest_orders, gaps_of, page, random_heap
from support import BureauCase

from pagebureau.base.errors import NoPage
from pagebureau.ledger.heaps import fewest, stages
from pagebureau.ledger.orders import first_order, followers, losses, orders, stage_ends


def heaps(seed, count, most):
    """Random heaps without clashes, with all their fewest orders."""
    source = random.Random(seed)
    for _ in range(count):
        pages, opening, closing = random_heap(source, most)
        if not clashing_pairs(pages):
            yield pages, opening, closing, fewest_orders(pages, opening, closing)[1]


def first_few(pages, opening, closing, count):
    found = []
    for order in orders(pages, opening, closing):
        found.append(order)
        if len(found) == count:
            break
    return found


class OrdersTest(BureauCase):
    def test_the_empty_heap(self):
        for opening, closing in ((0, 0), (0, 1)):
            self.assertEqual([], first_order([], opening, closing))
            self.assertEqual([[]], list(orders([], opening, closing)))

    def test_equal_pages_make_different_orders(self):
        pages = [page(1, 0, 0)] * 3
        expected = [[0, 1, 2], [0, 2, 1], [1, 0, 2], [1, 2, 0], [2, 0, 1], [2, 1, 0]]
        self.assertEqual(expected, list(orders(pages, 0, 0)))
        self.assertEqual([0, 1, 2], first_order(pages, 0, 0))

    def test_the_lowest_order_may_begin_with_a_gap(self):
        pages = [page(1, 5, 0), page(1, 0, 5)]
        self.assertEqual([[1, 0]], list(orders(pages, 0, 0)))
        self.assertEqual([[0, 1], [1, 0]], list(orders(pages, 0, 5)))
        self.assertEqual([[0, 1], [1, 0]], list(orders(pages, 9, 9)))
        self.assertEqual([0, 1], first_order(pages, 0, 5))

    def test_an_order_that_goes_through_several_stages(self):
        pages = [page(3, 2, 3), page(1, 1, 0), page(1, 0, 1), page(2, 1, 2), page(1, 0, 0, "a", 2)]
        self.assertEqual([[2, 1, 4, 3, 0]], list(orders(pages, 0, 3)))
        self.assertEqual([2, 1, 4, 3, 0], first_order(pages, 0, 3))

    def test_all_orders_of_random_heaps(self):
        for pages, opening, closing, expected in heaps(31, 400, 6):
            self.assertEqual(expected, list(orders(pages, opening, closing)))
            self.assertEqual(expected[0], first_order(tuple(pages), opening, closing))

    def test_lists_that_are_yielded_are_new(self):
        pages = [page(1, 0, 0)] * 4
        found = []
        for order in orders(pages, 0, 0):
            found.append(list(order))
            order.clear()
        self.assertEqual(24, len(found))
        self.assertEqual(sorted(found), found)

    def test_sixteen_pages_of_one_stage(self):
        chain = [page(4, k, k + 1) for k in range(16)]
        random.Random(32).shuffle(chain)
        numbers = sorted(range(16), key=lambda number: chain[number].opening)
        self.assertEqual(numbers, first_order(chain, 0, 16))
        self.assertEqual([numbers], list(orders(chain, 0, 16)))
        same = [page(4, 7, 7)] * 16
        self.assertEqual(list(range(16)), first_order(same, 7, 7))
        last = [*range(13), 14, 13, 15], [*range(13), 14, 15, 13]
        self.assertEqual([*range(13), *last[0][13:]], first_few(same, 7, 7, 3)[2])
        self.assertEqual([*range(13), *last[1][13:]], first_few(same, 7, 7, 4)[3])

    def test_sixteen_random_pages_of_one_stage(self):
        source = random.Random(33)
        for many in (3, 6, 40):
            pages = [page(4, source.randrange(many), source.randrange(many)) for _ in range(16)]
            opening, closing = source.randrange(many), source.randrange(many)
            found = first_few(pages, opening, closing, 50)
            self.assertEqual(found[0], first_order(pages, opening, closing))
            self.assertEqual(sorted(found), found)
            for order in found:
                self.assertEqual(list(range(16)), sorted(order))
                self.assertEqual(fewest(pages, opening, closing), len(gaps_of(pages, opening, closing, order)))


class FollowersTest(BureauCase):
    def test_the_empty_heap(self):
        self.assertEqual([0], followers([], 0, 0))
        self.assertEqual([0], followers([], 0, 1, None))
        self.assert_raises(NoPage, (0,), followers, [], 0, 0, 0)

    def test_numbers_that_no_page_has(self):
        pages = [page(1, 0, 1), page(2, 0, 1)]
        for number in (-1, 2, 3, 10 ** 20, True, False):
            self.assert_raises(NoPage, (number,), followers, pages, 0, 0, number)

    def test_what_follows_each_page(self):
        pages = [page(1, 0, 5), page(1, 5, 0), page(1, 5, 5), page(2, 0, 9)]
        self.assertEqual([0], followers(pages, 0, 9))
        self.assertEqual([2], followers(pages, 0, 9, 0))
        self.assertEqual([3], followers(pages, 0, 9, 1))
        self.assertEqual([1], followers(pages, 0, 9, 2))
        self.assertEqual([4], followers(pages, 0, 9, 3))
        self.assertEqual([0, 1, 2], followers([page(1, 0, 0)] * 3, 0, 0, None))
        self.assertEqual([0, 2, 3], followers([page(1, 0, 0)] * 3, 0, 0, 1))

    def test_random_heaps(self):
        for pages, opening, closing, expected in heaps(34, 400, 6):
            for number in [None, *range(len(pages))]:
                chains = [[None, *order, len(pages)] for order in expected]
                behind = {chain[chain.index(number) + 1] for chain in chains}
                self.assertEqual(sorted(behind), followers(pages, opening, closing, number))
                if number is None:
                    self.assertEqual(sorted(behind), followers(pages, opening, closing))


class LossesTest(BureauCase):
    def test_the_empty_heap(self):
        self.assertEqual([], losses([], 4, 4))
        self.assertEqual([(4, -4)], losses([], 4, -4))
        self.assertEqual([], stage_ends([], 4, 4))

    def test_losses_of_several_orders(self):
        pages = [page(1, 5, 0), page(1, 0, 5)]
        self.assertEqual([(0, 9), (5, 9), (9, 0), (9, 5)], losses(pages, 9, 9))
        self.assertEqual([(0, 5)], losses(pages, 0, 5))
        self.assertEqual([], losses(pages, 0, 0))
        self.assertEqual([(3, 4), (5, 0)], losses([page(1, 0, 3), page(2, 4, 5)], 0, 0))

    def test_stage_ends_of_several_orders(self):
        pages = [page(1, 0, 5), page(1, 0, 6), page(2, 7, 8), page(1, 0, 5)]
        self.assertEqual([[5, 6], [8]], stage_ends(pages, 0, 0))
        self.assertEqual([[5], [8]], stage_ends(pages[:1] + pages[2:], 0, 0))

    def test_random_heaps(self):
        for pages, opening, closing, expected in heaps(35, 400, 6):
            pairs = {gap[1:] for order in expected for gap in gaps_of(pages, opening, closing, order)}
            self.assertEqual(sorted(pairs), losses(pages, opening, closing))
            ends = []
            for stage in stages(pages):
                last = [[number for number in order if number in stage][-1] for order in expected]
                ends.append(sorted({pages[number].closing for number in last}))
            self.assertEqual(ends, stage_ends(tuple(pages), opening, closing))

    def test_sixteen_pages(self):
        source = random.Random(36)
        for days in ([4], [1, 2], [1, 2, 3], range(16)):
            pages = [page(days[k * len(days) // 16], source.randrange(9), source.randrange(9)) for k in range(16)]
            behind = [followers(pages, 0, 1, number) for number in [None, *range(16)]]
            ends, lost = stage_ends(pages, 0, 1), losses(pages, 0, 1)
            for order in first_few(pages, 0, 1, 60):
                for before, number in zip([-1, *order], [*order, 16]):
                    self.assertIn(number, behind[before + 1])
                for stage, closings in zip(stages(pages), ends):
                    self.assertIn(pages[[number for number in order if number in stage][-1]].closing, closings)
                for _, carried, wanted in gaps_of(pages, 0, 1, order):
                    self.assertIn((carried, wanted), lost)


if __name__ == "__main__":
    unittest.main()
