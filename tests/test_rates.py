import random
import unittest
from itertools import combinations_with_replacement

from judge_search import has_form, random_report, small_books, small_set
from support import BureauCase

from pagebureau.base.errors import NotStraight, TooLarge
from pagebureau.base.rows import Book
from pagebureau.flows.figures import Rate, Report
from pagebureau.judge.alike import alike
from pagebureau.judge.letters import effort, mark_classes
from pagebureau.judge.rates import alike_rates, parting_rates

COUNTING = ("count", "full", "days")


def rate_of(top, bottom):
    return Rate(Report.read(top), Report.read(bottom))


def all_reports(one, other):
    return [one.top, one.bottom, other.top, other.bottom]


class RatesCase(BureauCase):
    def differ_on_small_lists(self, one, other):
        """Whether the values differ on a list of up to two small books."""
        classes = mark_classes(*all_reports(one, other))
        most = {1: 3, 2: 2}.get(len(classes), 1)
        books = list(small_books(most, [letters[0] for letters in classes]))
        # Equal figures make equal values, so that one book for each four figures is enough.
        books = list({tuple(report(book) for report in all_reports(one, other)): book for book in books}.values())
        lists = [[book] for book in books] + [list(pair) for pair in combinations_with_replacement(books, 2)]
        return any(one(some) != other(some) for some in lists)

    def check(self, one, other):
        """Whether the rates are alike; the answers are held against small lists of books."""
        books = parting_rates(one, other)
        self.assertIs(books is None, alike_rates(one, other))
        if books is None:
            self.assertFalse(self.differ_on_small_lists(one, other), (one.text(), other.text()))
        else:
            self.assertIs(list, type(books))
            self.assertLessEqual(len(books), 16)
            self.assertTrue(all(type(book) is Book and has_form(book) for book in books))
            self.assertNotEqual(one(books), other(books), (one.text(), other.text()))
        return books is None


class ParallelTest(RatesCase):
    def random_rate(self, source):
        return Rate(random_report(source, 2), random_report(source, 2, COUNTING))

    def test_random_rates(self):
        source = random.Random(1181)
        done = 0
        while done < 80:
            one, other = self.random_rate(source), self.random_rate(source)
            if effort(*all_reports(one, other)) <= 4000:
                self.assertEqual(self.check(one, other), self.check(other, one))
                done += 1

    def test_rates_with_a_common_report(self):
        source = random.Random(1182)
        found = []
        while len(found) < 120:
            one = self.random_rate(source)
            top, bottom = one.top, one.bottom
            other = source.choice([
                Rate(random_report(source, 1), bottom), Rate(top, random_report(source, 1, COUNTING)), Rate(bottom, bottom),
                Rate(top.with_steps(bottom.pipeline), bottom), Rate(top, bottom.with_steps(top.pipeline)),
            ])
            if effort(*all_reports(one, other)) <= 4000:
                found.append(self.check(one, other))
        self.assertTrue(10 < sum(found) < 110)

    def test_a_rate_and_itself(self):
        source = random.Random(1183)
        done = 0
        while done < 40:
            rate = self.random_rate(source)
            if effort(rate.top, rate.bottom, rate.top, rate.bottom) <= 4000:
                self.assertTrue(self.check(rate, Rate.read(rate.text())))
                done += 1


class ToldRatesTest(RatesCase):
    def test_told_cases(self):
        for one, other, are_alike in [
            # Written in other ways.
            ("count a\nper\ncount ab", "sift ab\ncount a\nper\nsift ab\ncount abc", True), ("sum a\nper\ncount a", "run\nchange\nsum a\nper\nfill down\ncount a", True),
            ("days a\nper\ncount a", "total a\nsift -\ncount a\nper\ncount a", False), ("full a\nper\nfull a", "fill drop\ncount a\nper\nfull a", True),
            # Both figures doubled.
            ("count a\nper\ncount ab", "against a a\ncount a\nper\nagainst ab a\ncount ab", True), ("count a\nper\ncount ab", "against a a\ncount a\nper\ncount ab", False),
            ("count a\nper\ncount abc", "against abc d\ncount ad\nper\nagainst abc d\ncount abcd", False),
            # The bottom is 0 on all books: the value is 0.
            ("sum a\nper\ncount -", "count -\nper\ncount a", True), ("sum a\nper\ncount -", "sum a\nper\ncount a", False),
            ("sum a\nper\nsift -\ncount a", "count b\nper\nsift -\ndays b", True), ("count a\nper\ncount -", "times 0\nsum a\nper\nfull c", True),
            # The bottom is 0 on some books only.
            ("count a\nper\ncount a", "count b\nper\ncount b", False), ("count a\nper\ncount a", "days b\nper\ndays b", False),
            ("sum a\nper\ncount a", "sum a\nper\nfull a", False), ("count a\nper\ncount a", "full a\nper\nfull a", False),
            ("count a\nper\ncount a", "days a\nper\ndays a", True), ("count a\nper\ncount a", "count a\nper\ncount ab", False),
            ("sum -\nper\ncount a", "sum -\nper\ncount b", True), ("full a\nper\ncount abcdef", "fill drop\ncount a\nper\nrename a b\ncount bcdef", True),
            ("full a\nper\nfull ab", "full a\nper\ncount ab", False),
            # The same on each book alone, but not on two books together.
            ("keep over: -\ncount abcdef\nper\ndays abcdef", "count abcdef\nper\ncount abcdef", True),
            ("count a\nper\ncount ab", "sum a\nper\ncount ab", False),
        ]:
            one, other = Rate.read(one), Rate.read(other)
            self.assertIs(are_alike, self.check(one, other), (one.text(), other.text()))
            self.assertIs(are_alike, self.check(other, one), (one.text(), other.text()))

    def test_rates_that_differ_on_two_books_together_only(self):
        # The top is 1 if the first full row has the mark a and comes behind an empty one, else 0. The second bottom is
        # greater by 1 than the first one if there is another mark. So on one book the top is 0 where the bottoms differ.
        top = "rename f e\nfill down\nagainst abcde f\nfill up rows 1 halt bcdef\nkeep over: full\ncount f"
        one, other = rate_of(top, "fill down\nfull abcdef"), rate_of(top, "fill down\nfill up rows 1 halt a\nfull abcdef")
        self.assertTrue(all(one([book]) == other([book]) for book in small_books(3, "abf")))
        self.assertFalse(self.check(one, other))
        self.assertFalse(self.check(other, one))
        books = [Book([(0, "a", None), (0, "a", 1)]), Book([(0, "a", None), (0, "b", 1)])]
        self.assertEqual(["1/2", "1/3"], [one(books).text(), other(books).text()])

    def test_factors_of_one_figure_or_both(self):
        doubled, plain = rate_of("against a a\ncount a", "against a a\ncount a"), rate_of("count a", "count a")
        self.assertTrue(self.check(doubled, plain))
        self.assertFalse(self.check(rate_of("against a a\ncount a", "count a"), plain))
        self.assertTrue(self.check(rate_of("sift a\nfull a", "sift a\ncount a"), rate_of("against a a\nfull a", "against a a\ncount a")))

    def test_values_are_equal_on_no_book(self):
        one, other = rate_of("count a", "count ab"), rate_of("days a", "days ab")
        for rate in (one, other):
            self.assertEqual(0, rate([]))
        self.assertFalse(self.check(one, other))


class LimitsTest(RatesCase):
    def test_efforts_of_4000(self):
        steps = "fill down rows 6\nkeep over: full\nkeep hold: full\nkeep over: in a\nfill down rows 1"
        one = rate_of(f"{steps}\nsum a", f"{steps}\ncount a")
        for other in (one, rate_of(f"{steps}\nlast a", f"{steps}\ncount a"), rate_of("sum a", f"{steps}\ncount a")):
            self.assertLess(2000, effort(*all_reports(one, other)))
            self.assertIs(one is other, parting_rates(one, other) is None)
        books = parting_rates(one, rate_of("sum a", f"{steps}\ncount a"))
        self.assertNotEqual(one(books), rate_of("sum a", f"{steps}\ncount a")(books))

    def test_steps_are_checked_in_the_told_order(self):
        good = "fill up rows 3\nfill up rows 3\ncount ab"
        bents = [f"{'run' + chr(10)}" * at + "keep none: -\ncount a" for at in range(5)]
        for call in (alike_rates, parting_rates):
            self.assert_raises(NotStraight, (1,), call, rate_of(bents[1], bents[2]), rate_of(bents[3], bents[4]))
            self.assert_raises(NotStraight, (2,), call, rate_of(good, bents[2]), rate_of(bents[3], bents[4]))
            self.assert_raises(NotStraight, (3,), call, rate_of(good, good), rate_of(bents[3], bents[4]))
            self.assert_raises(NotStraight, (4,), call, rate_of(good, good), rate_of(good, bents[4]))
            self.assert_raises(TooLarge, (4096,), call, rate_of(good, good), rate_of(good, good))
            self.assert_raises(TooLarge, (4096 * 2,), call, rate_of(good, good), rate_of(good, "fill up rows 3\n" * 2 + "days ab"))
            self.assert_raises(TooLarge, (4096 * 4,), call, rate_of(good, "days ab"), rate_of(good, "days ab"))

    def test_alike_reports_make_alike_rates(self):
        source = random.Random(1184)
        found = []
        while len(found) < 30:
            one, other = (random_report(source, 2, COUNTING, small_set) for _ in range(2))
            bottom = Report.read("count abcdef")
            if effort(one, other, bottom, bottom) <= 4000:
                # A bottom that is 0 on the empty book alone.
                self.assertIs(alike(one, other), self.check(Rate(one, bottom), Rate(other, bottom)))
                found.append(alike(one, other))
        self.assertTrue(True in found and False in found)


if __name__ == "__main__":
    unittest.main()
