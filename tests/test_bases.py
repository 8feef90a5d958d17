import random
import unittest
from fractions import Fraction

from judge_search import has_form, random_book, random_report, small_books
from support import BureauCase

from pagebureau.base.errors import NotStraight, TooLarge
from pagebureau.base.fracs import Frac
from pagebureau.base.rows import Book
from pagebureau.flows.figures import Report
from pagebureau.judge.bases import Basis
from pagebureau.judge.letters import effort, grown, letters_of, mark_classes


class Rows:
    """Lists of numbers, and whether another one is a mixture of them."""

    def __init__(self):
        self.frame = {}

    def grow(self, row):
        """Whether the row is no mixture of those before, which it joins then."""
        rest = [Fraction(number) for number in row]
        for head, other in self.frame.items():
            times = rest[head]
            rest = [number - times * more for number, more in zip(rest, other)]
        head = next((at for at, number in enumerate(rest) if number), None)
        if head is None:
            return False
        self.frame[head] = [number / rest[head] for number in rest]
        return True


def mixed(weights, figures):
    return Frac.added([weight * figure for weight, figure in zip(weights, figures)])


def figures_behind(reports, book, ends):
    return [report(book.followed(more, same=same)) for report in reports for more, same in ends]


def small_reports(source, most):
    """Up to so many straight reports of small efforts with at most two classes."""
    while True:
        reports = [random_report(source, 2) for _ in range(source.randint(1, most))]
        if effort(*reports) <= 200 and len(mark_classes(*reports)) <= 2:
            return reports


class FirstBasisTest(BureauCase):
    def test_first_grown_books_without_a_shadow(self):
        source = random.Random(1161)
        for _ in range(40):
            reports = small_reports(source, 2)
            marks = [letters[0] for letters in mark_classes(*reports)]
            many = 3 if len(marks) == 1 else 2
            basis = Basis(*reports)
            # With the ends that tell the books of the basis apart, a book is in it exactly if its figures are no mixture.
            ends = [(more, same) for more in small_books(1, marks) for same in (True, False)]
            ends += [(more, same) for _, more, same in basis.tests()]
            rows = Rows()
            expected = [book for book in small_books(many, marks) if rows.grow(figures_behind(reports, book, ends))]
            self.assertEqual(expected, [book for book in basis if len(book) <= many], [report.text() for report in reports])
            self.assertTrue(all(type(book) is Book and has_form(book) for book in basis))

    def test_told_cases(self):
        for text, books in [
            ("count a", [[], [(0, "a", None)]]), ("count -", []), ("sift -\nsum a", []), ("times 0\nsum a", []), ("sum a", [[], [(0, "a", 1)]]),
            ("full a", [[], [(0, "a", 0)]]), ("last a", [[], [(0, "a", 1)]]), ("days a", [[], [(0, "a", None)], [(0, "a", None), (1, "a", None)]]),
            ("fill down\nsum a", [[], [(0, "a", 1)], [(0, "b", 1)]]),
        ]:
            basis = Basis(Report.read(text))
            self.assertEqual([Book(rows) for rows in books], list(basis), text)
            self.assertEqual(len(books), len(basis))

    def test_several_reports(self):
        count, total = Report.read("count a"), Report.read("sum a")
        self.assertEqual([Book(), Book([(0, "a", None)]), Book([(0, "a", 0)])], list(Basis(count, Report.read("full a"))))
        self.assertEqual(2, len(Basis(count, count)))
        self.assertEqual(3, len(Basis(count, total)))
        self.assertEqual(4, len(Basis(count, total, Report.read("full ab"))))
        self.assertEqual([Book(), Book([(0, "a", None)]), Book([(0, "a", 1)])], list(Basis(total, count, total)))


class ShadowTest(BureauCase):
    def test_shadows_hold_for_all_books_behind(self):
        source = random.Random(1162)
        for _ in range(60):
            reports = small_reports(source, 3)
            basis = Basis(*reports)
            books = list(basis)
            for _ in range(4):
                book = random_book(source, 6, (None, 0, 1, 3, -5, 10 ** 15 - 1))
                shadow = basis.shadow(book)
                self.assertEqual((list, len(basis)), (type(shadow), len(shadow)))
                self.assertTrue(all(type(number) is Frac for number in shadow))
                for more in [Book(), *[random_book(source, 6) for _ in range(5)]]:
                    for same in (True, False):
                        for report in reports:
                            figures = [report(other.followed(more, same=same)) for other in books]
                            self.assertEqual(report(book.followed(more, same=same)), mixed(shadow, figures))

    def test_shadows_of_the_books_themselves(self):
        basis = Basis(Report.read("keep over: full\nfill down rows 1\nsum a"))
        for at, book in enumerate(basis):
            self.assertEqual([Frac(int(other == at)) for other in range(len(basis))], basis.shadow(book))
        basis.shadow(Book()).clear()
        basis.matrix("+a.")[0].clear()
        self.assertEqual(len(basis), len(basis.shadow(Book())))
        self.assertEqual(len(basis), len(basis.matrix("+a.")[0]))

    def test_matrices(self):
        source = random.Random(1163)
        for _ in range(30):
            reports = small_reports(source, 2)
            basis = Basis(*reports)
            for letter in [f"{day}{mark}{amount}" for day in "+=" for mark in "abf" for amount in ".01"]:
                self.assertEqual([basis.shadow(grown(book, letter)) for book in basis], basis.matrix(letter))

    def test_marks_of_one_class_have_the_same_matrix(self):
        basis = Basis(Report.read("fill up rows 2\nsum ab"))
        for first, second in (("a", "b"), ("c", "f"), ("d", "e")):
            for amount in ".01":
                self.assertEqual(basis.matrix(f"+{first}{amount}"), basis.matrix(f"+{second}{amount}"))


class TestsTest(BureauCase):
    def check(self, reports):
        basis = Basis(*reports)
        tests = basis.tests()
        self.assertEqual(len(basis), len(tests))
        rows = Rows()
        for number, more, same in tests:
            self.assertTrue(type(number) is int and type(more) is Book and type(same) is bool)
            # Columns that are no mixtures of each other make rows that are none either.
            self.assertTrue(rows.grow([reports[number](book.followed(more, same=same)) for book in basis]))
        tests.clear()
        self.assertEqual(len(basis), len(basis.tests()))

    def test_random_reports(self):
        source = random.Random(1164)
        for _ in range(80):
            self.check(small_reports(source, 3))

    def test_told_reports(self):
        for texts in (["count -"], ["sum a", "sum a"], ["days a", "last b", "count ab"], ["keep hold: in a\nrun\nfill up rows 2\nsum ab"]):
            self.check([Report.read(text) for text in texts])


class BoundsTest(BureauCase):
    def test_errors(self):
        small, large = Report.read("count a"), Report.read("fill up rows 3\n" * 2 + "count a")
        bent = Report.read("run\nrun\nfill up rows 4\ncount a")
        self.assert_raises(NotStraight, (2,), Basis, bent)
        self.assert_raises(NotStraight, (2,), Basis, large, small, bent)
        self.assert_raises(TooLarge, (4096,), Basis, large)
        self.assert_raises(TooLarge, (4096,), Basis, small, large, small)
        self.assert_raises(TooLarge, (4096 * 2,), Basis, small, large, Report.read("days a"))

    def test_efforts_of_up_to_4000(self):
        for text in (
            "fill up rows 3 halt ab\nfill down halt bc\nsum acd", "keep over: in ab, full, in ac, in ad, in ade\nfill up rows 1\nkeep hold: in ac\nsum a",
            "fill up rows 2 halt a\nchange\nkeep over: in ab, in acd, full\nagainst ab c\nsum acf", "fill down rows 2\n" * 5 + "days abcdef",
            "fill up rows 3\nfill up rows 3\nfill up rows 3\nkeep over: full\nsum abcdef",
        ):
            report = Report.read(text)
            self.assertTrue(500 < effort(report) <= 4000, effort(report))
            basis = Basis(report)
            self.assertEqual(len(basis), len(basis.tests()))
            for letter in letters_of(report):
                self.assertEqual(len(basis), len(basis.matrix(letter)))
            source = random.Random(1165)
            for _ in range(5):
                book, more = random_book(source, 9), random_book(source, 9)
                figures = [report(other.followed(more, same=True)) for other in basis]
                self.assertEqual(report(book.followed(more, same=True)), mixed(basis.shadow(book), figures))


if __name__ == "__main__":
    unittest.main()
