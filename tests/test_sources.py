import random
import unittest

from judge_search import random_book, random_set, random_step
from support import BureauCase

from pagebureau.base.errors import NotStraight
from pagebureau.base.rows import Book
from pagebureau.flows.figures import WORDS, Report
from pagebureau.flows.sources import line_sources, sources
from pagebureau.ledger.mending import Mended
from pagebureau.ledger.pages import Page

LONG = 10 ** 15 - 1


def with_amounts(source, book):
    amounts = (0, 1, -1, LONG, -LONG, source.randint(-LONG, LONG))
    return Book([(day, mark, None if amount is None else source.choice(amounts)) for day, mark, amount in book])


class SourcesTest(BureauCase):
    def check(self, source, report, book):
        rows = list(book)
        constant, pairs = sources(report, book)
        self.assertEqual(rows, list(book))
        places = [place for place, _ in pairs]
        self.assertEqual(sorted(set(places)), places)
        self.assertTrue(all(rows[place][2] is not None and weight != 0 for place, weight in pairs))
        self.assertTrue(all(type(number) is int for number in (constant, *[number for pair in pairs for number in pair])))
        for other in [book, *[with_amounts(source, book) for _ in range(3)]]:
            self.assertEqual(report(other), constant + sum(weight * other[place][2] for place, weight in pairs), report.text())

    def test_each_kind_of_step(self):
        source = random.Random(1131)
        for _ in range(700):
            report = Report.read(f"{random_step(source)}\n{source.choice(WORDS)} {random_set(source)}")
            self.check(source, report, random_book(source, 12))

    def test_pipelines(self):
        source = random.Random(1132)
        for _ in range(700):
            steps = [random_step(source) for _ in range(source.randint(0, 8))]
            report = Report.read("\n".join([*steps, f"{source.choice(WORDS)} {random_set(source)}"]))
            self.check(source, report, random_book(source, 12))

    def test_told_cases(self):
        book = Book([(0, "a", 5), (0, "b", None), (1, "a", 7), (1, "b", -3)])
        for text, answer in [
            ("sum a", (0, [(0, 1), (2, 1)])), ("last ab", (0, [(3, 1)])), ("count ab", (4, [])), ("full ab", (3, [])), ("days b", (2, [])),
            ("fill down\nsum ab", (0, [(0, 2), (2, 1), (3, 1)])), ("run\nsum ab", (0, [(0, 3), (2, 2), (3, 1)])),
            ("change\nsum ab", (0, [(3, 1)])), ("change\nsum a", (0, [(2, 1)])), ("times -4\nsum b", (0, [(3, -4)])), ("times 0\nsum b", (0, [])),
            ("against ab c\nsum abc", (0, [])), ("against ab c\nsum c", (0, [(0, -1), (2, -1), (3, -1)])), ("total c\nlast c", (0, [(2, 1), (3, 1)])),
            ("keep hold: -\nsum ab", (0, [(3, 1)])), ("sum -", (0, [])), ("last f", (0, [])),
        ]:
            self.assertEqual(answer, sources(Report.read(text), book), text)
        self.assertEqual((0, []), sources(Report.read("run\nsum a"), Book()))

    def test_steps_that_are_not_straight(self):
        mended = Mended([Page([(0, "a", 1, 1)])], 0, 1)
        for text, at in [("fill up\nsum a", 0), ("run\nkeep none: -\nfill up\nsum a", 1), ("run\nrun\nfill near_below\ncount a", 2)]:
            self.assert_raises(NotStraight, (at,), sources, Report.read(text), Book())
            self.assert_raises(NotStraight, (at,), line_sources, Report.read(text), mended)

    def test_what_is_returned_may_be_changed(self):
        report, book = Report.read("sum a"), Book([(0, "a", 5)])
        sources(report, book)[1].clear()
        self.assertEqual((0, [(0, 1)]), sources(report, book))

    def test_long_books_and_long_pipelines(self):
        source = random.Random(1133)
        book = Book([(place // 3, "abc"[place % 3], None if place % 4 == 1 else place) for place in range(200)])
        for text in (
            "against abcdef a\n" * 8 + "sum a", "against abcdef a\n" * 5 + "run\n" * 3 + "sum a", "run\n" * 8 + "sum abc",
            "fill up rows 3\nkeep hold: in a\n" * 4 + "last abc", "total a\nchange\n" * 4 + "sum a",
        ):
            self.check(source, Report.read(text), book)


class LineSourcesTest(BureauCase):
    def check(self, report, pages, opening, closing):
        mended = Mended(pages, opening, closing)
        constant, found = line_sources(report, mended)
        expected_constant, pairs = sources(report, mended.book)
        self.assertEqual(expected_constant, constant)
        self.assertEqual([(*mended.source(place), weight) for place, weight in pairs], found)
        rows = [page.rows() for page in pages]
        self.assertEqual(report(mended.book), constant + sum(weight * rows[number][line][2] for number, line, weight in found))
        return found

    def test_left_out_copies(self):
        one, other = Page([(2, "a", 3, 8), (2, "b", None, 8)]), Page([(2, "b", 5, 5)])
        self.assertEqual([(1, 0, 1), (0, 0, 1)], self.check(Report.read("sum ab"), [one, other, one], 0, 8))
        self.assertEqual([(1, 0, 1), (0, 0, 2)], self.check(Report.read("fill down\nsum ab"), [one, other, one], 0, 8))
        self.assertEqual([], self.check(Report.read("count ab"), [one, other, one], 0, 8))

    def test_random_heaps(self):
        source = random.Random(1134)
        for _ in range(150):
            pages = []
            for day in range(source.randint(0, 3)):
                for _ in range(source.randint(1, 2)):
                    rows = [(day, source.choice("abc"), source.choice((None, 0, 1, 4, -2))) for _ in range(source.randint(1, 3))]
                    pages.append(Page.of(rows, source.randint(-3, 3)))
            pages += [source.choice(pages) for _ in range(source.randint(0, 2)) if pages]
            source.shuffle(pages)
            steps = [random_step(source) for _ in range(source.randint(0, 4))]
            report = Report.read("\n".join([*steps, f"{source.choice(WORDS)} {random_set(source)}"]))
            self.check(report, pages, 0, source.randint(-2, 2))

    def test_no_page(self):
        self.assertEqual((0, []), line_sources(Report.read("run\nsum a"), Mended([], 0, 0)))


if __name__ == "__main__":
    unittest.main()
