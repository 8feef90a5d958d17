"""The examples of the document, word for word."""

import unittest

from pagebureau.base.rows import Book
from pagebureau.base.spans import Span
from pagebureau.filling.filled import amounts_after
from pagebureau.filling.fillings import Filling
from pagebureau.flows.figures import Rate, Report
from pagebureau.flows.pipelines import Pipeline
from pagebureau.flows.sources import sources
from pagebureau.judge.alike import alike, parting
from pagebureau.judge.bases import Basis
from pagebureau.judge.coming import coming, is_free, unit_book
from pagebureau.judge.late import on_time
from pagebureau.judge.moves import Move
from pagebureau.judge.rates import alike_rates
from pagebureau.keeping.keepers import Keeper, kept_places
from pagebureau.ledger.mending import Mended
from pagebureau.ledger.pages import Page
from pagebureau.papers.making import likeness_paper
from pagebureau.papers.reading import alike_by, on_time_by
from pagebureau.posting.batches import Batch
from pagebureau.posting.plans import Plan
from pagebureau.posting.services import Service, Store


class ExamplesTest(unittest.TestCase):
    def test_the_text_of_a_book(self):
        self.assertEqual('   1 a               +5\n   1 b                .', Book([(1, "a", 5), (1, "b", None)]).text())

    def test_a_book_that_comes_late(self):
        self.assertEqual(
            [(0, 'c', 1), (1, 'a', 5), (1, 'd', 2), (3, 'a', 7)],
            list(Book([(1, "a", 5), (3, "a", 7)]) | Book([(0, "c", 1), (1, "d", 2)])))

    def test_a_book_that_is_followed(self):
        self.assertEqual(
            [(4, 'a', 1), (5, 'b', 2), (7, 'b', 3)],
            list(Book([(4, "a", 1)]).followed(Book([(7, "b", 2), (9, "b", 3)]))))

    def test_a_span(self):
        span = Span(3)
        first = span.grow((2, 4, 0))
        second = span.grow((1, 2, 0))
        third = span.grow((0, 3, 3))
        self.assertEqual([True, False, True, [(1, 0, -2), (0, 1, 1)]], [first, second, third, list(span)])

    def test_a_heap_made_good(self):
        pages = [Page([(2, "a", 3, 8)]), Page([(2, "b", 5, 5)]), Page([(2, "a", 3, 8)])]
        mended = Mended(pages, 0, 8)
        self.assertEqual(
            [[2], [1, 0], [], [(2, 'b', 5), (2, 'a', 3)], (0, 0)],
            [mended.left_out, mended.order, mended.gaps, list(mended.book), mended.source(1)])

    def test_a_keeper(self):
        keeper = Keeper.read("hold: full, most skip")
        self.assertEqual([1, 3], kept_places(keeper, [(0, "a", 3), (0, "b", 3), (0, "c", None), (1, "a", None)]))

    def test_a_filling(self):
        book = Book([(0, "a", 1), (0, "a", None), (1, "b", None), (1, "a", None), (2, "a", 5)])
        self.assertEqual([1, 1, None, 5, 5], amounts_after(Filling.read("near_above rows 1\ndown halt b"), book))

    def test_a_list_call(self):
        batch = Batch([(0, "a", 1), (1, "a", 2)])
        reply = Plan(timing="ahead")(Service.last_seat(), Store.empty(), batch)
        self.assertEqual([[0, 0], [(0, 'a', 1), (1, 'a', 2)]], [list(reply), list(reply.book)])

    def test_sources(self):
        report = Report.read("keep over: full\nfill down rows 1\nsum abcdef")
        book = Book([(0, "a", None), (0, "b", 4), (1, "a", None), (2, "a", None)])
        self.assertEqual([8, (0, [(1, 2)])], [report(book), sources(report, book)])

    def test_reports_that_are_parted(self):
        first = Report.read("sift ab\nkeep over: in a\ncount b")
        second = Report.read("keep over: in a\nsift ab\ncount b")
        self.assertEqual(
            [False, 2, None, False],
            [alike(first, second), len(parting(first, second)), on_time(first), on_time(second) is None])

    def test_alike_rates(self):
        first = Rate.read("count a\nper\ncount ab")
        self.assertIs(True, alike_rates(first, Rate.read("sift ab\ncount a\nper\nsift ab\ncount abc")))

    def test_what_comes(self):
        pipeline = Pipeline.read("against a b")
        self.assertEqual(
            ['abcdef', None, False, 1],
            [coming(pipeline).text(), unit_book(pipeline, "a"), is_free(pipeline), len(unit_book(pipeline, "b"))])

    def test_moves(self):
        report = Report.read("fill down\nsum a")
        self.assertEqual([5, None], [Move(report, "doubled", 0, 5).most, Move(report, "late", 0, 5).most])

    def test_a_basis(self):
        basis = Basis(Report.read("fill down\nsum a"))
        a, b, c = basis.shadow(Book([(0, "b", 7), (3, "a", None)]))
        self.assertEqual(['-6', '7', '0'], [a.text(), b.text(), c.text()])

    def test_a_paper(self):
        first = Report.read("run\nchange\nsum a")
        second = Report.read("sum a")
        paper = likeness_paper(first, second)
        self.assertEqual(
            ['basis', None, True, True],
            [paper.KIND, paper.examine(first, second), alike_by(paper, first, second), on_time_by(paper, second)])


if __name__ == "__main__":
    unittest.main()
