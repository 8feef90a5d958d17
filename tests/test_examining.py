import random
import unittest

from heap_search import fewest_orders, page, random_heap
from judge_search import random_book, random_report, small_books
from shares_search import random_told, shared, sized
from support import BureauCase

from pagebureau.base.errors import Clash, NotStraight, TooLarge, Untrue
from pagebureau.base.fracs import Frac
from pagebureau.base.marks import Marks
from pagebureau.base.rows import Book
from pagebureau.flows.figures import Report
from pagebureau.flows.sources import sources
from pagebureau.judge.letters import effort, letters_of, mark_classes
from pagebureau.ledger.heaps import fewest, prices
from pagebureau.papers.kinds import BarPaper, BasisPaper, MixturePaper, OrderPaper, Paper, PartingPaper, SourcesPaper
from pagebureau.papers.making import basis_paper, likeness_paper, mixing_paper, order_paper, sources_paper
from pagebureau.shares.comparing import same_formula
from pagebureau.shares.formulas import Formula
from pagebureau.shares.mixing import bar, weights
from pagebureau.shares.tables import Table

HALF = Frac(1, 2)


def random_good_heap(source, most):
    while True:
        heap = random_heap(source, most)
        try:
            fewest(*heap)
            return heap
        except Clash:
            pass


def changed_texts(paper, only=None):
    """The texts of a paper with one number, or one count of a table, made greater or less."""
    lines = paper.text().split("\n")
    for at, line in enumerate(lines):
        words = line.split(" ")
        if words[0] == "book" or at == 0 or (only is not None and at not in only):
            continue
        for k in range(1, len(words)):
            for more in (1, -1, HALF):
                if words[0] in ("order", "prices", "constant", "weight") or (words[0] == "table" and k > 1):
                    if more == HALF:
                        continue
                    word = str(int(words[k]) + more)
                else:
                    word = (Frac.read(words[k]) + more).text()
                if not (words[0] in ("order", "table", "weight") and k > 0 and int(word.split("/")[0]) < 0 and (words[0], k) not in (("weight", 2), ("table", 1))):
                    yield at, "\n".join([*lines[:at], " ".join([*words[:k], word, *words[k + 1:]]), *lines[at + 1:]])


class PaperCase(BureauCase):
    def assert_holds(self, paper, *question):
        self.assertIsNone(paper.examine(*question))

    def assert_untrue(self, part, at, paper, *question):
        self.assert_raises(Untrue, (part, at), paper.examine, *question)

    def holds(self, paper, *question):
        try:
            return paper.examine(*question) is None
        except Untrue:
            return False


class OrdersTest(PaperCase):
    def test_papers_that_are_made_hold(self):
        source = random.Random(1221)
        for _ in range(150):
            heap = random_good_heap(source, 6)
            paper = order_paper(*heap)
            self.assertIs(OrderPaper, type(paper))
            self.assert_holds(paper, *heap)
            self.assertEqual(fewest_orders(*heap)[1][0], paper.order)
            for order in fewest_orders(*heap)[1]:
                self.assert_holds(OrderPaper(order, paper.prices), *heap)

    def test_changed_numbers_and_papers_that_tell_something_else(self):
        source = random.Random(1222)
        held = 0
        for _ in range(60):
            heap = random_good_heap(source, 5)
            paper = order_paper(*heap)
            least, orders = fewest_orders(*heap)
            papers = [Paper.read(text) for _, text in changed_texts(paper)]
            pages = list(range(len(heap[0])))
            papers += [OrderPaper(source.sample(pages, len(pages)), [[(balance, price + source.choice((0, 0, -1, 1))) for balance, price in told] for told in paper.prices]) for _ in range(30)]
            for other in papers:
                if self.holds(other, *heap):
                    held += 1
                    self.assertIn(other.order, orders)
        self.assertLess(50, held)

    def test_each_part(self):
        pages = [page(1, 0, 5), page(2, 5, 7), page(2, 7, 6), page(4, 6, 1), page(2, 9, 9)]
        heap = (pages, 0, 1)
        paper = order_paper(*heap)
        self.assertEqual([0, 1, 2, 4, 3], paper.order)
        told = paper.prices
        for order in ([], [0, 1, 2, 3], [0, 1, 2, 4, 4], [1, 0, 2, 4, 3], [0, 1, 2, 3, 4], [0, 1, 2, 4, 5], [0, 1, 2, 4, 3, 3], [0, 1, 2, 4, -1]):
            self.assert_untrue("order", -1, OrderPaper(order, told), *heap)
            self.assert_untrue("order", -1, OrderPaper(order, []), *heap)
        for some in ([], told[:2], [*told, []], [*told, told[2]]):
            self.assert_untrue("stages", -1, OrderPaper(paper.order, some), *heap)
        for at in range(3):
            for wrong in ([], told[at][:-1], told[at][::-1] if len(told[at]) > 1 else [(3, 0)], [*told[at], (100, 0)], [(-100, 0), *told[at]], [*told[at], told[at][-1]],
                          [*told[at][:-1], (told[at][-1][0] + 1, told[at][-1][1])]):
                self.assert_untrue("balances", at, OrderPaper(paper.order, [*told[:at], wrong, *told[at + 1:]]), *heap)
            for k, (balance, price) in enumerate(told[at]):
                high = [*told[at][:k], (balance, price + 1), *told[at][k + 1:]]
                self.assert_untrue("price", at, OrderPaper(paper.order, [*told[:at], high, *told[at + 1:]]), *heap)

    def test_prices_of_the_last_stage(self):
        pages = [page(1, 0, 5), page(1, 5, 3)]
        for closing, price_of_3, price_of_5 in [(3, 0, 1), (5, 1, 0), (4, 1, 1)]:
            self.assertEqual([[(3, price_of_3), (5, price_of_5)]], order_paper(pages, 0, closing).prices)
            for one in (-1, 0, 1, 2):
                for other in (-1, 0, 1, 2):
                    paper = OrderPaper([0, 1], [[(3, one), (5, other)]])
                    # What is told of the last stage is not needed for the toll before it.
                    many = int(closing != 3)
                    if one > price_of_3 or other > price_of_5:
                        self.assert_untrue("price", 0, paper, pages, 0, closing)
                    else:
                        self.assertEqual(many <= fewest(pages, 0, closing), self.holds(paper, pages, 0, closing))

    def test_counts(self):
        pages = [page(1, 0, 5), page(1, 5, 3), page(2, 3, 4)]
        told = prices(pages, 4)
        self.assert_holds(OrderPaper([0, 1, 2], told), pages, 0, 4)
        self.assert_untrue("count", 3, OrderPaper([1, 0, 2], told), pages, 0, 4)
        self.assert_holds(OrderPaper([0, 1, 2], told), pages, 7, 4)
        self.assert_untrue("count", 3, OrderPaper([1, 0, 2], told), pages, 7, 4)
        # With too low prices nothing is shown.
        low = [[(balance, price - 1) for balance, price in some] for some in told]
        self.assert_untrue("count", 1, OrderPaper([0, 1, 2], low), pages, 7, 4)

    def test_no_pages(self):
        for opening, closing in [(0, 0), (0, 1), (-5, 5)]:
            self.assertEqual("order\norder", order_paper([], opening, closing).text())
            self.assert_holds(OrderPaper([], []), [], opening, closing)
            self.assert_untrue("order", -1, OrderPaper([0], []), [], opening, closing)
            self.assert_untrue("stages", -1, OrderPaper([], [[]]), [], opening, closing)

    def test_parts_in_their_order(self):
        pages = [page(1, 0, 5), page(2, 5, 7), page(3, 7, 8)]
        self.assert_untrue("balances", 2, OrderPaper([0, 1, 2], [[(5, 9)], [(7, 9)], [(9, 9)]]), pages, 0, 8)
        self.assert_untrue("price", 0, OrderPaper([0, 1, 2], [[(5, 9)], [(7, 0)], [(8, 9)]]), pages, 0, 8)
        # What is told of the next stage decides, be it right or wrong.
        self.assert_untrue("price", 1, OrderPaper([0, 1, 2], [[(5, 9)], [(7, 9)], [(8, 9)]]), pages, 0, 8)
        self.assert_untrue("price", 1, OrderPaper([0, 1, 2], [[(5, 9)], [(7, 9)], [(8, 0)]]), pages, 9, 8)
        self.assert_untrue("price", 2, OrderPaper([0, 1, 2], [[(5, 0)], [(7, 0)], [(8, 1)]]), pages, 9, 8)
        self.assert_untrue("stages", -1, OrderPaper([0, 1, 2], [[(6, 9)], [(7, 9)]]), pages, 9, 8)

    def test_clashes_come_first(self):
        clashing = [page(9, 0, 0), page(1, 0, 1, "a", 3), page(2, 0, 1, "a", 4)]
        for paper in (OrderPaper([], []), OrderPaper([7], [[(1, 1)]]), OrderPaper([1, 2, 0], [])):
            self.assert_raises(Clash, (1, 2), paper.examine, clashing, 0, 0)
        self.assert_raises(Clash, (1, 2), order_paper, clashing, 0, 0)

    def test_heaps_of_16_pages(self):
        pages = [page(1 + at // 4, at * 7 - at * 7 // 5 * 5, at * 3 - at * 3 // 5 * 5) for at in range(16)]
        paper = order_paper(pages, 0, 0)
        self.assert_holds(paper, pages, 0, 0)
        one_stage = [page(1, at * 7 - at * 7 // 5 * 5, at * 3 - at * 3 // 5 * 5) for at in range(16)]
        self.assert_holds(order_paper(one_stage, 0, 0), one_stage, 0, 0)


def small_reports(source, most):
    while True:
        reports = [random_report(source, 2) for _ in range(source.randint(1, most))]
        if effort(*reports) <= 300 and len(mark_classes(*reports)) <= 3:
            return reports


def mixed(fracs, figures):
    return Frac.added([frac * figure for frac, figure in zip(fracs, figures)])


def shadows_hold(paper, reports, ends):
    """Whether the shadows of a paper hold for some books behind."""
    letters = letters_of(*reports)
    told = [(Book(), paper.start)]
    for book, some in zip(paper.books, paper.shadows):
        for letter, shadow in zip(letters, some):
            row = Book([(0, letter[1], None if letter[2] == "." else int(letter[2]))])
            told.append((book.followed(row, same=letter[0] == "="), shadow))
    for book, shadow in told:
        for report in reports:
            for more, same in ends:
                figures = [report(other.followed(more, same=same)) for other in paper.books]
                if mixed(shadow, figures) != report(book.followed(more, same=same)):
                    return False
    return True


class BasesTest(PaperCase):
    def test_papers_that_are_made_hold(self):
        source = random.Random(1223)
        for _ in range(80):
            reports = small_reports(source, 3)
            paper = basis_paper(*reports)
            self.assertIs(BasisPaper, type(paper))
            self.assert_holds(paper, *reports)
            self.assertIs(BasisPaper, type(Paper.read(paper.text())))
            self.assert_holds(Paper.read(paper.text()), *reports)
            # It holds for the reports in another order, and for some of them if these have the same classes.
            self.assert_holds(paper, *reports[::-1])
            if len(reports) < 3 and reports[0].word != "days":
                self.assert_holds(paper, *reports, reports[0])

    def test_changed_numbers(self):
        source = random.Random(1224)
        for _ in range(15):
            reports = small_reports(source, 2)
            paper = basis_paper(*reports)
            lines = len(paper.text().split("\n"))
            only = range(lines) if lines < 12 else source.sample(range(lines), 12)
            for _, text in changed_texts(paper, only):
                # There is no other shadow in a basis.
                self.assertFalse(self.holds(Paper.read(text), *reports), text)

    def test_changed_books(self):
        source = random.Random(1225)
        held = []
        for _ in range(60):
            reports = small_reports(source, 2)
            paper = basis_paper(*reports)
            if not paper.books:
                continue
            at = source.randrange(len(paper.books))
            book = source.choice([random_book(source, 3, (None, 0, 1)), paper.books[at].followed(Book([(0, "a", 0)])), random_book(source, 1, (0, 1))])
            other = BasisPaper([*paper.books[:at], book, *paper.books[at + 1:]], paper.start, paper.shadows)
            marks = [letters[0] for letters in mark_classes(*reports)]
            ends = [(more, same) for more in small_books(1 if len(marks) > 1 else 2, marks) for same in (True, False)]
            held.append(self.holds(other, *reports))
            if held[-1]:
                self.assertTrue(shadows_hold(other, reports, ends))
        self.assertIn(True, held)
        self.assertIn(False, held)

    def test_papers_with_more_books_than_needed(self):
        report = Report.read("count a")
        one, two = Book([(0, "a", None)]), Book([(0, "a", 5), (4, "a", -7)])
        letters = letters_of(report)
        self.assertEqual(12, len(letters))

        def grown(more, at):
            # In the books with 0, 1 and 2 rows of the mark: what has one row more.
            return [[0, -1, 2] if at == 2 and letter[1] == "a" else [int(at + (letter[1] == "a") == k) for k in range(3)] for letter in letters]

        paper = BasisPaper([Book(), one, two], [1, 0, 0], [grown(letters, at) for at in range(3)])
        self.assert_holds(paper, report)
        # Here a book has several shadows.
        self.assert_holds(BasisPaper([Book(), one, two], [2, -2, 1], paper.shadows), report)
        self.assert_holds(BasisPaper([Book(), one, two], [Frac(3, 2), -1, HALF], paper.shadows), report)
        self.assert_untrue("start", -1, BasisPaper([Book(), one, two], [2, -2, 0], paper.shadows), report)
        self.assert_holds(BasisPaper([Book(), one, Book(list(two) + [(9998, "b", 1)])], paper.start, paper.shadows), report)

    def test_each_part(self):
        report = Report.read("sum a")
        paper = basis_paper(report)
        books, start, shadows = paper.books, paper.start, paper.shadows
        self.assertEqual(([Book(), Book([(0, "a", 1)])], [1, 0], [12, 12]), (books, start, [len(some) for some in shadows]))
        for wrong in [
            BasisPaper(books, start, shadows[:1]), BasisPaper(books, start, [*shadows, shadows[0]]), BasisPaper(books, [1], shadows), BasisPaper(books, [1, 0, 0], shadows),
            BasisPaper(books, start, [shadows[0], shadows[1][:-1]]), BasisPaper(books, start, [[*shadows[0], [0, 0]], shadows[1]]), BasisPaper(books[:1], start, shadows),
            BasisPaper(books, start, [shadows[0], [[1], *shadows[1][1:]]]), BasisPaper(books, start, [shadows[0], [*shadows[1][:-1], [1, 0, 0]]]), BasisPaper([], [1], []),
            BasisPaper([*books, Book([(9999, "a", 1)])], start, shadows), BasisPaper([], [], shadows),
        ]:
            self.assert_untrue("lengths", -1, wrong, report)
        self.assert_untrue("start", -1, BasisPaper([], [], []), report)
        for at in range(2):
            late = [Book([(9999, "a", 1)]) if k == at else Book([(3, "a", 1)]) for k in range(2)]
            self.assert_untrue("days", at, BasisPaper(late, start, shadows), report)
        self.assert_untrue("days", 0, BasisPaper([Book([(0, "a", 1), (9999, "b", 2)])] * 2, [5, 5], shadows), report)
        for wrong in ([0, 0], [0, 1], [1, 1], [HALF, 0], [1, Frac(1, 10 ** 50)]):
            self.assert_untrue("start", -1, BasisPaper(books, wrong, [shadows[1], shadows[0]]), report)
        for at in range(2):
            for k in range(12):
                some = [*shadows[at][:k], [shadows[at][k][0] + HALF, shadows[at][k][1]], *shadows[at][k + 1:]]
                self.assert_untrue("shadow", at, BasisPaper(books, start, [*shadows[:at], some, *shadows[at + 1:]]), report)
        # All books of all letters: that of the first wrong one.
        self.assert_untrue("shadow", 0, BasisPaper(books, start, [[[7, 7]] * 12] * 2), report)

    def test_integers_in_place_of_fracs(self):
        report = Report.read("sum a")
        paper = basis_paper(report)
        whole = [[[int(frac.text()) for frac in shadow] for shadow in some] for some in paper.shadows]
        other = BasisPaper(paper.books, [1, 0], whole)
        self.assertTrue(other == paper)
        self.assert_holds(other, report)

    def test_ranks_of_0(self):
        report = Report.read("times 0\nsum ab")
        paper = basis_paper(report)
        self.assertEqual("basis\nstart", paper.text())
        self.assert_holds(paper, report, report)
        self.assert_untrue("start", -1, paper, report, Report.read("count a"))

    def test_errors_that_come_first(self):
        bad = BasisPaper([Book([(9999, "a", 1)])], [], [])
        bent, large = Report.read("run\nkeep none: -\nsum a"), Report.read("fill up rows 3\nfill up rows 3\nsum ab")
        self.assert_raises(NotStraight, (1,), bad.examine, large, bent)
        self.assert_raises(TooLarge, (4096,), bad.examine, large)
        self.assert_raises(TooLarge, (4096,), bad.examine, large, large, large)
        self.assert_raises(TooLarge, (8192,), bad.examine, large, Report.read("days ab"))
        self.assert_raises(NotStraight, (1,), basis_paper, large, bent)
        self.assert_raises(TooLarge, (4096,), basis_paper, large)

    def test_efforts_of_4000(self):
        for text in (
            "fill down rows 6 halt b\nfill down rows 6 halt a\nkeep over: in ab, full\nfill up rows 1 halt a\nlast a", "fill down rows 6\n" * 3 + "fill down rows 5\nsum abcdef",
            "fill up rows 3 halt ab\nfill down halt bc\nsum ac", "fill down rows 6\nkeep over: full\nkeep hold: full\nkeep over: in a\nfill down rows 1\nsum a",
        ):
            report = Report.read(text)
            self.assertTrue(1000 < effort(report) <= 4000, effort(report))
            paper = basis_paper(report)
            self.assert_holds(paper, report)
            shadow = [frac + int(at == 0) for at, frac in enumerate(paper.shadows[-1][-1])]
            wrong = [*paper.shadows[:-1], [*paper.shadows[-1][:-1], shadow]]
            self.assert_untrue("shadow", len(paper.books) - 1, BasisPaper(paper.books, paper.start, wrong), report)


class PartingsTest(PaperCase):
    def test_likeness_papers(self):
        source = random.Random(1226)
        found = []
        while len(found) < 60:
            one, other = random_report(source, 2), random_report(source, 2)
            if effort(one, other) <= 300:
                paper = likeness_paper(one, other)
                self.assert_holds(paper, one, other)
                self.assert_holds(likeness_paper(one, one), one, one)
                found.append(type(paper))
        self.assertEqual({BasisPaper, PartingPaper}, set(found))

    def test_figures(self):
        one, other = Report.read("keep none: full\nsum a"), Report.read("fill near_above\nsum a")
        book = Book([(0, "a", 1), (0, "a", None)])
        self.assert_holds(PartingPaper(book), one, other)
        for book in (Book(), Book([(0, "a", 1)]), Book([(0, "b", 1), (0, "b", None)])):
            self.assert_untrue("figure", -1, PartingPaper(book), one, other)
            self.assert_untrue("figure", -1, PartingPaper(book), one, one)
        # Also far apart, with great amounts, and whatever the effort is.
        large = Report.read("fill up rows 3\n" * 8 + "sum abc")
        self.assert_holds(PartingPaper(Book([(3, "a", None), (9999, "b", 10 ** 15 - 1)])), large, Report.read("sum abc"))

    def test_errors(self):
        bent, large = Report.read("run\nkeep none: -\nsum a"), Report.read("fill up rows 3\nfill up rows 3\nsum ab")
        self.assert_raises(NotStraight, (1,), likeness_paper, large, bent)
        self.assert_raises(TooLarge, (4096,), likeness_paper, large, large)


class SourcesPapersTest(PaperCase):
    def random_question(self, source):
        return random_report(source, 4), random_book(source, 10)

    def test_papers_that_are_made_hold(self):
        source = random.Random(1227)
        for _ in range(200):
            question = self.random_question(source)
            paper = sources_paper(*question)
            self.assertIs(SourcesPaper, type(paper))
            self.assertEqual(sources(*question), (paper.constant, paper.weights))
            self.assert_holds(paper, *question)

    def test_changed_numbers(self):
        source = random.Random(1228)
        held = 0
        for _ in range(80):
            report, book = self.random_question(source)
            paper = sources_paper(report, book)
            for _, text in changed_texts(paper):
                other = Paper.read(text)
                if self.holds(other, report, book):
                    held += 1
                    weights_by_place = dict(other.weights)
                    right = dict(sources(report, book)[1])
                    self.assertTrue(all(weights_by_place.get(place, 0) == right.get(place, 0) for place in range(len(book))))
        self.assertEqual(0, held)

    def test_each_part(self):
        report = Report.read("fill down\nsum ab")
        book = Book([(0, "a", 5), (0, "b", None), (1, "c", 4), (2, "a", 0), (2, "f", None)])
        self.assertEqual((0, [(0, 2), (3, 1)]), sources(report, book))
        self.assert_holds(SourcesPaper(0, [(0, 2), (3, 1)]), report, book)
        self.assert_holds(SourcesPaper(0, [(0, 2), (2, 0), (3, 1)]), report, book)
        for pairs, at in [
            ([(1, 0)], 0), ([(-1, 0), (0, 2)], 0), ([(5, 0)], 0), ([(0, 2), (0, 2)], 1), ([(3, 1), (0, 2)], 1), ([(0, 2), (3, 1), (4, 0)], 2), ([(0, 2), (2, 0), (2, 0)], 2),
            ([(0, 9), (1, 9), (-7, 9)], 1), ([(0, 2), (3, 1), (10 ** 59, 0)], 2),
        ]:
            self.assert_untrue("places", at, SourcesPaper(1, pairs), report, book)
        for constant in (-1, 1, 10 ** 59):
            self.assert_untrue("constant", -1, SourcesPaper(constant, [(0, 9)]), report, book)
        for pairs, at in [
            ([], 0), ([(0, 2)], 3), ([(3, 1)], 0), ([(0, 1), (3, 1)], 0), ([(0, 2), (3, 2)], 3), ([(0, 2), (2, 1), (3, 1)], 2), ([(0, 2), (2, -1), (3, 7)], 2), ([(0, -2), (2, 1), (3, 1)], 0),
        ]:
            self.assert_untrue("weight", at, SourcesPaper(0, pairs), report, book)
        self.assert_holds(SourcesPaper(0, []), report, Book([(0, "a", None)]))
        self.assert_untrue("places", 0, SourcesPaper(0, [(0, 0)]), report, Book([(0, "a", None)]))
        self.assert_untrue("places", 0, SourcesPaper(0, [(0, 0)]), report, Book())

    def test_constants(self):
        book = Book([(0, "a", 5), (0, "b", None)])
        for text, constant in [("count ab", 2), ("full ab", 1), ("days f", 0)]:
            self.assert_holds(SourcesPaper(constant, []), Report.read(text), book)
            self.assert_holds(SourcesPaper(constant, [(0, 0)]), Report.read(text), book)
            self.assert_untrue("constant", -1, SourcesPaper(constant + 1, []), Report.read(text), book)

    def test_errors_that_come_first(self):
        bent = Report.read("run\nrun\nfill near_below\nsum a")
        self.assert_raises(NotStraight, (2,), SourcesPaper(5, [(9, 9), (0, 0)]).examine, bent, Book())
        self.assert_raises(NotStraight, (2,), sources_paper, bent, Book())

    def test_books_of_200_rows(self):
        book = Book([(at // 3, "abc"[at - at // 3 * 3], None if at // 4 * 4 == at else 10 ** 15 - 1 - at) for at in range(200)])
        report = Report.read("fill down rows 2\nkeep last: full, in a\nrun\nchange\nagainst a b\ntotal c\nrun\ntimes -1000\nsum abc")
        paper = sources_paper(report, book)
        self.assert_holds(paper, report, book)
        at = len(paper.weights) // 2
        place, weight = paper.weights[at]
        self.assert_untrue("weight", place, SourcesPaper(0, [*paper.weights[:at], (place, weight + 1), *paper.weights[at + 1:]]), report, book)


class MixingPapersTest(PaperCase):
    def random_question(self, source):
        told = [random_told(source, 3).formula for _ in range(source.randint(0, 3))]
        if source.random() < 0.5 and told:
            wanted = told[0]
            for formula in told[1:]:
                if source.random() < 0.7:
                    wanted = (wanted + 2 * formula) // 3
        else:
            wanted = random_told(source, 3).formula
        return wanted, told

    def test_papers_that_are_made_hold(self):
        source = random.Random(1229)
        found, done = [], 0
        while done < 60:
            wanted, told = self.random_question(source)
            if wanted.size + sum(formula.size for formula in told) > 12:
                continue
            paper = mixing_paper(wanted, told)
            self.assert_holds(paper, wanted, told)
            self.assertEqual(weights(wanted, told), paper.weights if type(paper) is MixturePaper else None)
            self.assert_holds(Paper.read(paper.text()), wanted, tuple(told))
            found.append(type(paper))
            done += 1
        self.assertLess(10, found.count(MixturePaper))
        self.assertLess(10, found.count(BarPaper))

    def test_changed_numbers(self):
        source = random.Random(1230)
        held, done = 0, 0
        while done < 30:
            wanted, told = self.random_question(source)
            if wanted.size + sum(formula.size for formula in told) > 12:
                continue
            done += 1
            paper = mixing_paper(wanted, told)
            for _, text in changed_texts(paper):
                other = Paper.read(text)
                if self.holds(other, wanted, told):
                    held += 1
                    if type(other) is MixturePaper:
                        total = Formula.zero()
                        for weight, formula in zip(other.weights, told):
                            total = total + weight.top * formula // weight.bottom
                        self.assertTrue(same_formula(total, wanted))
                    else:
                        self.assertIsNone(weights(wanted, told))
                        sums = [Frac.added([factor * formula(table) for factor, table in other.bar]) for formula in [*told, wanted]]
                        self.assertEqual([0] * len(told) + [1], sums)
        self.assertLess(0, held)

    def test_each_part_of_a_mixture(self):
        a, b, c = shared("a", "abc"), shared("b", "abc"), shared("ab", "abc")
        self.assert_holds(MixturePaper([1, 1]), c, [a, b])
        self.assert_holds(MixturePaper([Frac(1), Frac(1)]), c, [a, b])
        self.assert_holds(MixturePaper([HALF, HALF]), (a + b) // 2, (a, b))
        # Weights that are not those that are found may be right, too.
        self.assert_holds(MixturePaper([HALF, HALF, HALF]), c, [a, b, c])
        for wrong in ([], [1], [1, 1, 0], [1, 1, 1]):
            self.assert_untrue("weights", -1, MixturePaper(wrong), c, [a, b])
        for wrong in ([1, 2], [0, 0], [-1, 1], [1, HALF], [1, Frac(10 ** 50 + 1, 10 ** 50)]):
            self.assert_untrue("mixture", -1, MixturePaper(wrong), c, [a, b])
        self.assert_holds(MixturePaper([]), Formula.zero(), [])
        self.assert_untrue("mixture", -1, MixturePaper([]), a, [])
        self.assert_untrue("weights", -1, MixturePaper([0]), Formula.zero(), [])

    def test_each_part_of_a_bar(self):
        a, b, c = shared("a", "abc"), shared("b", "abc"), shared("ab", "abc")
        wanted, told = shared("a", "ab"), [a, b]
        paper = mixing_paper(wanted, told)
        self.assertEqual(list(bar(wanted, told)), paper.bar)
        self.assert_holds(paper, wanted, told)
        pairs = paper.bar
        self.assert_holds(BarPaper([(1, Table(a=1))]), a, [b])
        self.assert_holds(BarPaper([(1, Table(a=7))]), a, [])
        self.assert_holds(BarPaper([(2, Table(a=1, b=1)), (-1, Table(b=1))]), a, [])
        for wrong, at in [
            ([*pairs, pairs[0]], len(pairs)), ([(1, Table(a=1)), (2, Table(a=1))], 1), ([(0, Table(a=1))], 0), ([(1, Table(a=1)), (0, Table(b=1)), (0, Table(a=1))], 1),
            ([(1, Table(a=1)), (1, Table(b=1)), (-1, Table(a=1))], 2), ([(1, Table(a=1)), (Frac(0), Table())], 1),
        ]:
            self.assert_untrue("table", at, BarPaper(wrong), wanted, told)
        for wrong, at in [([(1, Table(a=1))], 0), ([(1, Table(b=1))], 1), ([(1, Table(a=1, b=1))], 0), ([(5, Table(a=1)), (1, Table(b=1))], 0)]:
            self.assert_untrue("told", at, BarPaper(wrong), wanted, told)
        self.assert_holds(BarPaper([(2, Table(a=1, b=1)), (-1, Table(a=1)), (-1, Table(b=1))]), Formula.share(Marks("a"), Marks("a")) - 2 * wanted, told)
        for wrong in ([], [(1, Table(c=1))], [(HALF, Table(a=1, d=3))], [(-1, Table(a=1))]):
            self.assert_untrue("wanted", -1, BarPaper(wrong), a, [b])
            self.assert_untrue("wanted", -1, BarPaper(wrong), c, [b])
        self.assert_untrue("wanted", -1, BarPaper([(factor + factor, table) for factor, table in pairs]), wanted, told)
        self.assert_holds(BarPaper(pairs[::-1]), wanted, told)

    def test_integers_in_place_of_fracs(self):
        self.assert_holds(BarPaper([(2, Table(a=1, b=1))]), shared("a", "ab"), [])
        self.assert_untrue("wanted", -1, BarPaper([(1, Table(a=1, b=1))]), shared("a", "ab"), [])
        self.assertEqual("bar\ntable 2 1 1 0 0 0 0", BarPaper([(2, Table(a=1, b=1))]).text())

    def test_errors_that_come_first(self):
        for paper in (MixturePaper([1] * 9), BarPaper([(0, Table())])):
            self.assert_raises(TooLarge, (13,), paper.examine, sized(6), [sized(3), sized(4)])
            self.assert_raises(TooLarge, (24,), paper.examine, sized(12), [sized(12)])
        self.assert_raises(TooLarge, (13,), mixing_paper, sized(6), [sized(3), sized(4)])
        self.assert_holds(mixing_paper(sized(6), [sized(3), sized(3)]), sized(6), [sized(3), sized(3)])

    def test_what_is_passed_stays(self):
        told = [shared("a", "ab")]
        paper = mixing_paper(shared("b", "ab"), told)
        self.assertEqual(1, len(told))
        table = paper.bar[0][1]
        before = list(table)
        self.assert_holds(paper, shared("b", "ab"), told)
        self.assertEqual(before, list(table))


if __name__ == "__main__":
    unittest.main()
