import random
import unittest

from heap_search import clashing_pairs, has_whole_order, page, random_heap
from support import BureauCase

from pagebureau.ledger.misread import one_digit_apart, readings, spares
from pagebureau.ledger.pages import Page

LONG = 10 ** 15 - 1


def are_apart(one, two):
    if (one < 0) != (two < 0):
        return False
    first, second = str(abs(one)), str(abs(two))
    return len(first) == len(second) and sum(a != b for a, b in zip(first, second)) == 1


def apart_from(number, most):
    return [other for other in range(-most, most + 1) if are_apart(number, other)]


def readings_by_search(lines, opening, closing, most=999):
    """All readings of lines whose amounts and balances have at most so many digits as `most`."""
    found = []
    for at, (day, mark, amount, balance) in enumerate(lines):
        changed = [] if amount is None else [(day, mark, other, balance) for other in apart_from(amount, most)]
        changed += [(day, mark, amount, other) for other in apart_from(balance, most)]
        for line in sorted(changed, key=lambda line: (line[2] or 0, line[3])):
            pages = [Page([each]) for each in [*lines[:at], line, *lines[at + 1:]]]
            if has_whole_order(pages, opening, closing):
                found.append((at, line))
    return found


def misread_lines(source):
    """Lines that go on from one another, of which mostly one is changed, with the balances at both ends."""
    count, opening = source.randint(0, 4), source.choice([0, 5, 12, -3])
    lines, balance, day = [], opening, 1
    for _ in range(count):
        amount = source.choice([None, 0, 3, -5, 10, -12, 99])
        balance += amount or 0
        day += source.choice([0, 0, 1])
        lines.append((day, source.choice("ab"), amount, balance))
    if lines and source.random() < 0.8:
        at = source.randrange(count)
        day, mark, amount, wrong = lines[at]
        if amount is not None and source.random() < 0.5:
            amount += source.choice([1, -1, 10, -2])
        else:
            wrong += source.choice([1, -1, 10, 3])
        lines[at] = (day, mark, amount, wrong)
    source.shuffle(lines)
    return lines, opening, balance


class OneDigitApartTest(BureauCase):
    def test_one_digit(self):
        for one, two in [(1, 2), (0, 9), (10, 11), (10, 20), (-5, -6), (-10, -90), (LONG, LONG - 1), (1234, 1934)]:
            self.assertIs(True, one_digit_apart(one, two))
            self.assertIs(True, one_digit_apart(two, one))

    def test_equal_numbers(self):
        for number in (0, 5, -5, LONG, -LONG):
            self.assertIs(False, one_digit_apart(number, number))

    def test_signs(self):
        for one, two in [(5, -5), (5, -6), (0, -1), (0, -5), (10, -20), (-9, 0)]:
            self.assertIs(False, one_digit_apart(one, two))
            self.assertIs(False, one_digit_apart(two, one))

    def test_other_lengths_and_more_digits(self):
        for one, two in [(1, 11), (9, 10), (0, 10), (-1, -11), (99, 100), (12, 21), (10, 31), (100, 111), (-12, -21)]:
            self.assertIs(False, one_digit_apart(one, two))
            self.assertIs(False, one_digit_apart(two, one))

    def test_all_small_numbers(self):
        for one in range(-120, 121):
            for two in range(-120, 121):
                self.assertIs(are_apart(one, two), one_digit_apart(one, two))

    def test_long_numbers(self):
        self.assertIs(True, one_digit_apart(10 ** 5000, 10 ** 5000 + 10 ** 70))
        self.assertIs(False, one_digit_apart(10 ** 5000, 10 ** 5000 + 11))

    def test_an_empty_amount_is_apart_from_nothing(self):
        for thing in (None, True, False):
            for other in (None, 0, 1, 5):
                self.assertIs(False, one_digit_apart(thing, other))
                self.assertIs(False, one_digit_apart(other, thing))


class ReadingsTest(BureauCase):
    def test_the_empty_list(self):
        self.assertEqual([], readings([], 0, 0))
        self.assertEqual([], readings((), 0, 1))

    def test_a_misread_amount_and_a_misread_balance(self):
        self.assertEqual([(0, (1, "a", 5, 8))], readings([(1, "a", 4, 8)], 3, 8))
        self.assertEqual([(0, (1, "a", 5, 8))], readings([(1, "a", 5, 9)], 3, 8))
        self.assertEqual([], readings([(1, "a", 4, 9)], 3, 8))
        self.assertEqual([], readings([(1, "a", -5, 8)], 3, 8))

    def test_several_readings(self):
        lines = [(1, "a", -2, 0), (1, "b", 1, 3)]
        self.assertEqual([(0, (1, "a", -2, 1)), (1, (1, "b", 1, 1))], readings(lines, 2, 1))
        lines = [(1, "a", None, 9), (1, "b", 1, 6), (1, "c", 1, 7)]
        self.assertEqual([(0, (1, "a", None, balance)) for balance in (5, 6, 7)], readings(lines, 5, 7))

    def test_lines_that_have_an_order_without_gaps_already(self):
        lines = [(1, "a", 0, 7), (1, "b", 0, 7)]
        self.assertEqual([], readings(lines, 7, 7))
        lines = [(1, "a", 3, 7), (1, "b", -3, 4)]
        self.assertEqual(readings_by_search(lines, 4, 4), readings(lines, 4, 4))
        lines = [(1, "a", 2, 5), (1, "b", 2, 7), (1, "c", -2, 5)]
        expected = readings_by_search(lines, 3, 5)
        self.assertTrue(has_whole_order([Page([line]) for line in lines], 3, 5))
        self.assertEqual(expected, readings(lines, 3, 5))

    def test_readings_that_only_change_the_order(self):
        # The balance may become another one that stands in the heap already.
        lines = [(1, "a", None, 5), (1, "b", 1, 6), (1, "c", None, 6)]
        self.assertEqual([(0, (1, "a", None, 6)), (2, (1, "c", None, 5))], readings(lines, 5, 6))

    def test_an_empty_amount_stays_empty(self):
        self.assertEqual([(0, (1, "a", None, 8))], readings([(1, "a", None, 7)], 8, 8))
        self.assertEqual([], readings([(1, "a", None, 8)], 7, 8))

    def test_an_amount_of_0_is_not_negative(self):
        self.assertEqual([(0, (1, "a", 0, 8))], readings([(1, "a", 4, 8)], 8, 8))
        self.assertEqual([], readings([(1, "a", -4, 8)], 8, 8))
        self.assertEqual([], readings([(1, "a", 0, 8)], 9, 8))
        self.assertEqual([(0, (1, "a", 1, 8))], readings([(1, "a", 0, 8)], 7, 8))
        self.assertEqual([(0, (1, "a", 1, 0))], readings([(1, "a", 1, 4)], -1, 0))

    def test_lengths_are_kept(self):
        self.assertEqual([], readings([(1, "a", 10, 12)], 10, 12))
        self.assertEqual([], readings([(1, "a", 9, 20)], 10, 20))
        self.assertEqual([(0, (1, "a", -LONG, 0))], readings([(1, "a", -LONG + 1, 0)], LONG, 0))
        self.assertEqual([(0, (1, "a", LONG, -LONG))], readings([(1, "a", LONG, -LONG + 8)], -2 * LONG, -LONG))

    def test_days_are_looked_at(self):
        lines = [(1, "a", 1, 2), (2, "b", 2, 1)]
        self.assertEqual([], readings(lines, -1, 2))
        self.assertEqual([(1, (2, "b", 2, 4))], readings(lines, 1, 4))

    def test_random_lines(self):
        source = random.Random(51)
        for _ in range(300):
            lines, opening, closing = misread_lines(source)
            found = readings(lines, opening, closing)
            self.assertEqual(sorted(found, key=lambda pair: (pair[0], pair[1][2] or 0, pair[1][3])), found)
            self.assertEqual(readings_by_search(lines, opening, closing), found)
            self.assertEqual(found, readings(tuple(lines), opening, closing))

    def test_sixteen_lines(self):
        lines = [(1, "a", 1, k + 1) for k in range(16)]
        self.assertEqual([], [at for at, line in readings(lines, 0, 16) if line[2] == 1 and line[3] == at + 1])
        lines[7] = (1, "a", 3, 8)
        self.assertEqual([(7, (1, "a", 1, 8))], readings(lines, 0, 16))
        lines[3] = (1, "a", 3, 4)
        self.assertEqual([], readings(lines, 0, 16))

    def test_sixteen_lines_of_many_digits(self):
        for day in (0, 1):
            for amount in (None, 0, 123456789012345, -LONG):
                lines, balance = [], LONG
                for at in range(16):
                    balance += amount or 0
                    lines.append((day * at, "a", amount, balance))
                    amount = amount and -amount
                self.assertIsInstance(readings(lines, LONG, balance), list)
                wrong = [*lines[:9], (*lines[9][:3], lines[9][3] - 10 ** 14), *lines[10:]]
                self.assertIn((9, lines[9]), readings(wrong, LONG, balance))

    def test_the_lines_are_not_changed(self):
        lines = [(1, "a", 4, 8)]
        readings(lines, 3, 8).append(None)
        self.assertEqual(([(1, "a", 4, 8)], 1), (lines, len(readings(lines, 3, 8))))


class SparesTest(BureauCase):
    def test_no_pages_and_one_page(self):
        self.assertEqual([], spares([], 0, 0))
        self.assertEqual([0], spares([page(1, 0, 5)], 3, 3))
        self.assertEqual([], spares([page(1, 0, 5)], 0, 5))

    def test_pages_that_are_too_many(self):
        pages = [page(1, 0, 5), page(1, 7, 9), page(1, 5, 0, "b"), page(1, 0, 5)]
        self.assertEqual([1], spares(pages, 0, 5))
        self.assertEqual([], spares(pages, 0, 0))
        self.assertEqual([0, 2], spares([page(1, 0, 5), page(1, 5, 0), page(1, 0, 5)], 0, 0))

    def test_a_heap_with_an_order_without_gaps_may_have_spares(self):
        self.assertEqual([0, 1, 2], spares([page(1, 4, 4)] * 3, 4, 4))
        self.assertEqual([1], spares((page(1, 0, 5), page(2, 5, 5), page(3, 5, 1)), 0, 1))

    def test_days_are_looked_at(self):
        pages = [page(2, 0, 5), page(1, 5, 0), page(1, 1, 0), page(3, 5, 1)]
        self.assertEqual([], spares(pages, 0, 1))
        self.assertEqual([1], spares(pages, 1, 1))

    def test_random_heaps(self):
        source = random.Random(52)
        for _ in range(500):
            pages, opening, closing = random_heap(source, 5)
            if not clashing_pairs(pages):
                numbers = range(len(pages))
                expected = [k for k in numbers if has_whole_order(pages[:k] + pages[k + 1:], opening, closing)]
                self.assertEqual(expected, spares(pages, opening, closing))

    def test_sixteen_pages_of_one_stage(self):
        self.assertEqual(list(range(16)), spares([page(1, 7, 7)] * 16, 7, 7))
        chain = [page(1, k, k + 1) for k in range(15)]
        self.assertEqual([4], spares([*chain[:4], page(1, 3, 9), *chain[4:]], 0, 15))


if __name__ == "__main__":
    unittest.main()
