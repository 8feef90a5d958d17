import random
import unittest
from itertools import permutations

from support import BureauCase

from pagebureau.ledger.lots import Lots, parting_links
from pagebureau.ledger.pages import Page

LONG = 10 ** 15 - 1


def lots_by_search(links):
    """The lots as point 13 tells them, by walking along the links."""
    found, lots = set(), []
    for start in sorted({balance for link in links for balance in link}):
        if start in found:
            continue
        lot, waiting = {start}, [start]
        while waiting:
            balance = waiting.pop()
            for one, two in links:
                for here, there in ((one, two), (two, one)):
                    if here == balance and there not in lot:
                        lot.add(there)
                        waiting.append(there)
        found |= lot
        openings, closings = [link[0] for link in links], [link[1] for link in links]
        lots.append(tuple((b, openings.count(b) - closings.count(b)) for b in sorted(lot)))
    return lots


def shortage(lots):
    sums = [sum(max(0, excess) for _, excess in lot) for lot in lots]
    return sums[0] if len(sums) == 1 else sum(max(1, each) for each in sums)


def random_links(source, most, balances):
    return [(source.choice(balances), source.choice(balances)) for _ in range(source.randint(0, most))]


class LotsTest(BureauCase):
    def assert_lots(self, expected, lots):
        self.assertIs(Lots, type(lots))
        self.assertEqual(expected, list(lots))
        self.assertEqual(len(expected), len(lots))

    def test_no_links(self):
        for lots in (Lots([]), Lots(()), Lots.of(), Lots([]) + Lots([]), -Lots([])):
            self.assert_lots([], lots)
            self.assertEqual(0, abs(lots))
            self.assertIs(False, 0 in lots)
            self.assertEqual(0, lots[0])

    def test_chains_in_any_direction(self):
        for links in permutations([(1, 2), (3, 2), (3, 4), (5, 4)]):
            self.assert_lots([((1, 1), (2, -2), (3, 2), (4, -2), (5, 1))], Lots(links))
        for links in permutations([(9, 5), (-5, 1), (5, 1), (7, 7), (0, 20)]):
            self.assert_lots([((-5, 1), (1, -2), (5, 0), (9, 1)), ((0, 1), (20, -1)), ((7, 0),)], Lots(links))

    def test_rings_and_links_at_one_balance(self):
        self.assert_lots([((1, 0), (2, 0), (3, 0))], Lots([(1, 2), (2, 3), (3, 1)]))
        self.assert_lots([((4, 0),)], Lots([(4, 4)]))
        self.assert_lots([((4, 0),)], Lots([(4, 4)] * 3))
        self.assert_lots([((1, 0), (4, 0))], Lots([(1, 4), (4, 4), (4, 1)]))
        self.assert_lots([((1, 3), (4, -3))], Lots([(1, 4)] * 3))

    def test_excesses(self):
        lots = Lots([(1, 2), (1, 3), (3, 1), (1, 1), (8, 9)])
        self.assertEqual([1, -1, 0, 1, -1], [lots[balance] for balance in (1, 2, 3, 8, 9)])
        for balance in (0, 4, 7, 10, -1, LONG):
            self.assertEqual(0, lots[balance])
            self.assertIs(False, balance in lots)
        for balance in (1, 2, 3, 8, 9):
            self.assertIs(True, balance in lots)
        for thing in (True, False):
            self.assertIs(False, thing in Lots([(0, 1)]))
            self.assertEqual(0, Lots([(0, 1)])[thing])

    def test_the_shortage(self):
        for expected, links in [
            (0, []), (1, [(1, 2)]), (0, [(1, 1)]), (0, [(1, 2), (2, 1)]), (2, [(1, 2), (1, 2)]),
            (2, [(1, 2), (3, 2)]), (1, [(1, 2), (2, 3)]), (2, [(1, 2), (3, 4)]), (2, [(1, 1), (2, 2)]),
            (2, [(1, 1), (2, 3)]), (4, [(1, 1), (2, 3), (2, 3), (2, 4)]), (3, [(1, 1), (2, 2), (3, 3)]),
            (4, [(1, 2), (2, 1), (5, 6), (5, 7), (5, 8)]), (5, [(1, 2), (1, 2), (3, 4), (3, 5), (6, 6)]),
        ]:
            self.assertEqual(expected, abs(Lots(links)))

    def test_random_links(self):
        source = random.Random(11)
        for _ in range(400):
            links = random_links(source, 9, source.choice([range(3), range(-6, 7), range(40), (-LONG, LONG, 0)]))
            lots = Lots(links)
            self.assert_lots(lots_by_search(links), lots)
            self.assertEqual(shortage(lots_by_search(links)), abs(lots))

    def test_operators(self):
        source = random.Random(12)
        for _ in range(300):
            first, second = random_links(source, 5, range(6)), random_links(source, 5, range(6))
            a, b = Lots(first), Lots(second)
            self.assert_lots(lots_by_search(first + second), a + b)
            self.assertEqual(a + b, b + a)
            self.assert_lots(lots_by_search([link[::-1] for link in first]), -a)
            self.assertEqual(a, -(-a))
            self.assertIs(lots_by_search(first) == lots_by_search(second), a == b)
            self.assertIs(lots_by_search(first) != lots_by_search(second), a != b)
            self.assert_lots(lots_by_search(first), a)
            self.assert_lots(lots_by_search(second), b)

    def test_equal_lots_of_other_links(self):
        self.assertEqual(Lots([(1, 2), (2, 3), (3, 1)]), Lots([(3, 2), (2, 1), (1, 3)]))
        self.assertEqual(Lots([(1, 1)]), Lots([(1, 1), (1, 1)]))
        self.assertNotEqual(Lots([(1, 1)]), Lots([]))
        self.assertNotEqual(Lots([(1, 1), (2, 2)]), Lots([(1, 2), (2, 1)]))
        self.assertNotEqual(Lots([(1, 2)]), Lots([(2, 1)]))
        self.assert_unequal_to_others(Lots([(1, 2)]), ([((1, 1), (2, -1))], [(1, 2)], {1: 1, 2: -1}, None, 1))
        self.assert_unequal_to_others(Lots([]), ([], (), 0, None, False))

    def test_the_lots_of_pages(self):
        pages = [Page.of([(1, "a", 5), (2, "b", None)], 0), Page.of([(1, "a", -5)], 5), Page.of([(9, "c", 0)], 7)]
        self.assert_lots([((0, 1), (5, -1))], Lots.of(pages[0]))
        self.assert_lots([((0, 0), (5, 0)), ((7, 0),)], Lots.of(*pages))
        self.assert_lots([((0, 1), (5, -1)), ((7, 0),)], Lots.of(pages[2], pages[0], pages[2]))
        self.assert_lots([((-2 * LONG, 1), (-LONG, -1))], Lots.of(Page([(4, "a", LONG, -LONG)])))

    def test_lots_keep_their_own_links(self):
        links = [(1, 2), (3, 4)]
        lots = Lots(links)
        links[0] = (1, 4)
        links.append((7, 7))
        self.assert_lots([((1, 1), (2, -1)), ((3, 1), (4, -1))], lots)
        self.assert_lots([((1, -1), (2, 1)), ((3, -1), (4, 1))], -lots)
        list(lots).clear()
        self.assertEqual(2, len(lots))

    def test_400_links(self):
        chain = [(k + 1, k) for k in range(400)]
        for links in (chain, chain[::-1], chain[::2] + chain[1::2]):
            lots = Lots(links)
            self.assertEqual((1, 1), (len(lots), abs(lots)))
            self.assertEqual((-1, 0, 1), (lots[0], lots[200], lots[400]))
            self.assertEqual(401, len(list(lots)[0]))
        apart = Lots([(2 * k, 2 * k + 1) for k in range(400)])
        self.assertEqual((400, 400), (len(apart), abs(apart)))
        self.assertEqual((400, 400), (len(-apart), abs(-apart)))
        self.assertEqual((200, 1), (len(apart + Lots(chain)), len(Lots([(5, 5)] * 400))))
        star = Lots([(0, -10 ** 15 * 9 - k) for k in range(400)])
        self.assertEqual((1, 400), (len(star), abs(star)))


class PartingTest(BureauCase):
    def assert_parted(self, first, second):
        for one, two in ((first, second), (second, first)):
            a, b = Lots(one), Lots(two)
            links = parting_links(a, b)
            self.assertIsInstance(links, list)
            self.assertLessEqual(len(links), 200)
            for opening, closing in links:
                self.assertLess(max(abs(opening), abs(closing)), 10 ** 16)
            self.assertNotEqual(abs(a + Lots(links)), abs(b + Lots(links)))
            self.assertEqual((lots_by_search(one), lots_by_search(two)), (list(a), list(b)))

    def test_equal_lots(self):
        for first, second in [
            ([], []), ([(1, 1)], [(1, 1)] * 20), ([(1, 2), (2, 3), (3, 1)], [(3, 2), (2, 1), (1, 3)]),
            ([(1, 2), (3, 4)], [(3, 4), (1, 2)]), ([(1, 2), (2, 3)], [(1, 3), (2, 3), (3, 2)]),
        ]:
            self.assertIsNone(parting_links(Lots(first), Lots(second)))

    def test_a_balance_alone(self):
        for first, second in [
            ([], [(0, 0)]), ([], [(1, 1)]), ([(5, 5)], [(6, 6)]), ([(1, 2)], [(1, 2), (3, 3)]),
            ([(1, 2), (2, 1)], [(1, 1)]), ([(1, 2)], [(1, 3), (3, 2)]), ([(1, 1), (2, 2)], [(1, 1), (2, 2), (3, 3)]),
            ([(1, 2), (4, 4)], [(1, 4), (4, 2)]), ([(1, 3), (3, 2), (5, 5)], [(1, 5), (5, 2), (3, 3)]),
            ([(LONG, LONG)], [(-LONG, -LONG)]), ([(LONG, -LONG)], [(LONG, LONG), (LONG, -LONG), (0, 0)]),
        ]:
            self.assert_parted(first, second)

    def test_an_excess_alone(self):
        for first, second in [
            ([(1, 2)], [(2, 1)]), ([(1, 2)], [(1, 2)] * 2), ([(1, 2)], [(1, 2), (2, 1)]), ([], [(1, 2)]),
            ([(1, 2), (3, 4)], [(1, 4), (2, 3), (1, 2), (3, 4)]), ([(1, 2)] * 20, [(1, 2)] * 19),
            ([(1, 2), (3, 4)], [(2, 1), (3, 4)]), ([(1, 2), (2, 3)], [(2, 1), (3, 2)]), ([(1, 2)] * 20, [(2, 1)] * 20),
            ([(1, 2)], [(3, 4)]), ([(1, 1), (2, 3)], [(2, 2), (1, 3)]), ([(1, 2), (3, 3)], [(3, 2), (1, 1)]),
        ]:
            self.assert_parted(first, second)

    def test_only_what_is_joined(self):
        for first, second in [
            ([(1, 1), (2, 2)], [(1, 2), (2, 1)]), ([(1, 2), (3, 4)], [(1, 4), (3, 2)]),
            ([(1, 2), (3, 4)], [(1, 2), (3, 4), (1, 3), (3, 1)]), ([(1, 2), (3, 3)], [(1, 3), (3, 2)]),
            ([(1, 2), (2, 1), (3, 3)], [(1, 1), (2, 3), (3, 2)]), ([(1, 2)] * 5 + [(3, 4)] * 5, [(1, 4)] * 5 + [(3, 2)] * 5),
            ([(1, 2), (3, 4), (5, 6)], [(1, 4), (3, 2), (5, 6)]), ([(1, 2), (3, 4), (5, 6)], [(1, 4), (3, 6), (5, 2)]),
            ([(1, 1), (2, 2), (3, 4), (4, 3)], [(1, 2), (2, 1), (3, 3), (4, 4)]),
        ]:
            self.assertEqual(sorted(pair for lot in Lots(first) for pair in lot),
                             sorted(pair for lot in Lots(second) for pair in lot))
            self.assert_parted(first, second)

    def test_20_links(self):
        apart = [(2 * k, 2 * k + 1) for k in range(20)]
        shifted = [(2 * k, (2 * k + 3) % 40) for k in range(20)]
        loops = [(k, k) for k in range(20)]
        ring = [(k, (k + 1) % 20) for k in range(20)]
        far = [(-LONG + 2 * k, LONG - 2 * k) for k in range(20)]
        for first, second in [
            (apart, shifted), (loops, ring), (apart, far), (far, far[1:] + [(0, 0)]), (apart, loops), (loops, []),
            (apart, apart[:19] + [(38, 38)]), (apart, apart[:19]), (ring, ring[:19] + [(19, 19)]),
            (far, [link[::-1] for link in far]), (loops, loops[:19]), (apart, [link[::-1] for link in apart]),
        ]:
            self.assert_parted(first, second)

    def test_random_lots(self):
        source = random.Random(13)
        for _ in range(1500):
            balances = source.choice([range(3), range(5), range(-4, 9)])
            first = random_links(source, source.randint(0, 8), balances)
            second = random_links(source, source.randint(0, 8), balances)
            if source.random() < 0.6:
                closings = [link[1] for link in first]
                source.shuffle(closings)
                second = [(link[0], closing) for link, closing in zip(first, closings)]
            if lots_by_search(first) == lots_by_search(second):
                self.assertIsNone(parting_links(Lots(first), Lots(second)))
            else:
                self.assert_parted(first, second)


if __name__ == "__main__":
    unittest.main()
