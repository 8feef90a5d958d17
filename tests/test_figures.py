import random
import unittest

from judge_search import ALL, random_book, random_set
from support import BureauCase

from pagebureau.base.errors import BadFigure, BadText, TooLarge
from pagebureau.base.fracs import Frac
from pagebureau.base.marks import Marks
from pagebureau.base.rows import Book
from pagebureau.flows.figures import WORDS, Rate, Report, Sheet, figure_of
from pagebureau.flows.pipelines import Pipeline
from pagebureau.flows.steps import Run
from pagebureau.shares.formulas import Formula
from pagebureau.shares.tables import Table

BOOK = Book([
    (0, "b", 9), (3, "a", None), (3, "c", 4), (3, "a", 7), (3, "a", -2), (5, "a", None), (800, "c", None), (9999, "a", 10 ** 15 - 1),
    (9999, "b", None),
])
NO_WORDS = ("", "Count", "counts", "total", "sum ", " sum", "per", "-", "run")


def by_definition(book, word, marks):
    rows = [row for row in book if row[1] in marks]
    full = [row[2] for row in rows if row[2] is not None]
    return {
        "count": len(rows), "full": len(full), "days": len({row[0] for row in rows}), "sum": sum(full), "last": full[-1] if full else 0,
    }[word]


class FigureTest(BureauCase):
    def test_words(self):
        self.assertEqual(("count", "full", "days", "sum", "last"), WORDS)

    def test_each_word(self):
        for letters, figures in [
            ("a", (5, 3, 3, 5 + 10 ** 15 - 1, 10 ** 15 - 1)), ("b", (2, 1, 2, 9, 9)), ("c", (2, 1, 2, 4, 4)), ("d", (0, 0, 0, 0, 0)),
            ("", (0, 0, 0, 0, 0)), ("bc", (4, 2, 4, 13, 4)), (ALL, (9, 5, 5, 18 + 10 ** 15 - 1, 10 ** 15 - 1)),
        ]:
            for word, figure in zip(WORDS, figures):
                self.assertEqual(figure, figure_of(BOOK, word, Marks(letters)), (word, letters))
        for word in WORDS:
            self.assertEqual(0, figure_of(Book(), word, Marks(ALL)))
            self.assertIs(int, type(figure_of(Book(), word, Marks(ALL))))

    def test_rows_that_are_all_empty(self):
        book = Book([(1, "a", None), (1, "a", None), (7, "a", None), (8, "b", 5)])
        self.assertEqual([3, 0, 2, 0, 0], [figure_of(book, word, Marks("a")) for word in WORDS])

    def test_random_books(self):
        source = random.Random(1111)
        for _ in range(200):
            book, letters = random_book(source, 12), random_set(source)
            for word in WORDS:
                self.assertEqual(by_definition(book, word, Marks.read(letters)), figure_of(book, word, Marks.read(letters)))

    def test_how_far_days_are_apart_does_not_matter(self):
        source = random.Random(1112)
        for _ in range(50):
            book = random_book(source, 10)
            days = {day: 7 * at for at, day in enumerate(book.days())}
            moved = Book([(days[day], mark, amount) for day, mark, amount in book])
            for word in WORDS:
                self.assertEqual(figure_of(book, word, Marks("abc")), figure_of(moved, word, Marks("abc")))

    def test_other_words(self):
        for word in NO_WORDS:
            self.assert_raises(BadFigure, (word,), figure_of, BOOK, word, Marks("a"))
            self.assert_raises(BadFigure, (word,), Report, Pipeline(), word, Marks("a"))


class ReportTest(BureauCase):
    def test_fields_and_texts(self):
        pipeline, marks = Pipeline.read("run\nsift ab"), Marks("fa")
        report = Report(pipeline, "last", marks)
        self.assertEqual((pipeline, "last", marks), (report.pipeline, report.word, report.marks))
        self.assertEqual("run\nsift ab\nlast af", report.text())
        self.assertEqual("count -", Report(Pipeline(), "count", Marks()).text())
        for word in WORDS:
            for steps in ("", "run\n", "run\n" * 8, "keep none: most skip\nfill up\n"):
                text = f"{steps}{word} abcdef"
                self.assertEqual(text, Report.read(text).text())
                self.assertTrue(Report.read(text) == Report.read(text))

    def test_texts_that_no_report_has(self):
        for text, at in [
            ("", 0), ("\n", 0), ("run", 0), ("count", 0), ("count ", 0), ("count a b", 0), ("count ba", 0), ("count  a", 0), (" count a", 0),
            ("count a\n", 0), ("counts a", 0), ("\ncount a", 0), ("run\ncount", 1), ("run\n", 1), ("run\nrun", 1), ("run\ncount a ", 1),
            ("ran\ncount", 0), ("run\n\ncount a", 1), ("count a\ncount a", 0), ("sum -a", 0), ("sum g", 0), ("per a", 0),
            ("run\n" * 8 + "count", 8), ("run\n" * 7 + "x\ncount", 7), ("\n\ncount a", 0),
        ]:
            with self.subTest(text=text):
                self.assert_raises(BadText, (at,), Report.read, text)

    def test_the_number_of_steps_comes_first(self):
        for text, many in [("run\n" * 9 + "count a", 9), ("x\n" * 11 + "y", 11), ("\n" * 9, 9), ("run\n" * 9, 9)]:
            self.assert_raises(TooLarge, (many,), Report.read, text)
        self.assert_raises(BadText, (0,), Report.read, "\n" * 8)

    def test_figures_on_books(self):
        report = Report.read("sift ab\nrun\nlast a")
        other = Book([(0, "a", 3), (0, "c", 5), (1, "b", -1), (4, "a", None), (4, "a", 1)])
        self.assertEqual(3, report(other))
        self.assertEqual(0, report(Book()))
        self.assertEqual(0, report.on([]))
        self.assertEqual(9, report.on([other, Book(), other, other]))
        self.assertEqual(6, report.on((other, other)))

    def test_random_reports(self):
        source = random.Random(1113)
        for _ in range(100):
            pipeline = Pipeline.read("keep hold: in ab, most skip\nfill near_above rows 2\nagainst a b")
            word, letters = source.choice(WORDS), random_set(source)
            report = Report(pipeline, word, Marks.read(letters))
            books = [random_book(source) for _ in range(3)]
            figures = [by_definition(pipeline(book), word, Marks.read(letters)) for book in books]
            self.assertEqual(figures, [report(book) for book in books])
            self.assertEqual(sum(figures), report.on(books))

    def test_with_steps(self):
        report = Report.read("run\nsum ab")
        other = report.with_steps(Pipeline.read("change\ntimes 2"))
        self.assertEqual("change\ntimes 2\nsum ab", other.text())
        self.assertEqual("run\nsum ab", report.text())

    def test_equality_and_straight(self):
        report = Report.read("run\nsum ab")
        self.assertFalse(report == Report.read("run\nsum a"))
        self.assertFalse(report == Report.read("sum ab"))
        self.assertFalse(report == Report.read("run\nlast ab"))
        self.assert_unequal_to_others(report, [report.text(), None, 0, Pipeline([Run()]), Rate(report, Report.read("count a"))])
        self.assertIs(True, report.straight)
        self.assertIs(False, Report.read("fill up\nsum ab").straight)


class RateTest(BureauCase):
    def test_fields_and_texts(self):
        top, bottom = Report.read("run\nsum a"), Report.read("count ab")
        rate = Rate(top, bottom)
        self.assertEqual((top, bottom), (rate.top, rate.bottom))
        self.assertEqual("run\nsum a\nper\ncount ab", rate.text())
        for text in (rate.text(), "last -\nper\nrun\nrun\ndays abcdef", "run\n" * 8 + "sum a\nper\n" + "run\n" * 8 + "full a"):
            self.assertEqual(text, Rate.read(text).text())
            self.assertTrue(Rate.read(text) == Rate.read(text))

    def test_words_of_the_bottom(self):
        top = Report.read("last a")
        for word in WORDS:
            bottom = Report.read(f"{word} a")
            if word in ("sum", "last"):
                self.assert_raises(BadFigure, (word,), Rate, top, bottom)
                self.assert_raises(BadFigure, (word,), Rate.read, f"sum a\nper\n{word} a")
            else:
                self.assertEqual(bottom, Rate(top, bottom).bottom)

    def test_texts_that_no_rate_has(self):
        for text, at in [
            ("", 1), ("\n", 2), ("count a", 1), ("count a\ncount b", 2), ("count a\nper ", 2), ("count a\n per\ncount a", 3),
            ("per", 0), ("per\ncount a", 0), ("count a\nper", 2), ("count a\nper\n", 2), ("\nper\ncount a", 0), ("per\nper", 0),
            ("count a\nper\nper", 2), ("count a\nper\ncount a\nper\ncount a", 2), ("count a\nper\nrun\nper\ncount a", 3),
            ("count\nper\ncount", 0), ("count a\nper\ncount", 2), ("run\ncount a\nper\nrun\nran\ncount a", 4), ("run\nper\ncount a", 0),
            ("ran\ncount a\nper\nx", 0), ("count a\nper\nrun\n\nsum a", 3), ("count a\n\nper\nsum x", 0), ("run\n\nper\nsum x", 1),
        ]:
            with self.subTest(text=text):
                self.assert_raises(BadText, (at,), Rate.read, text)

    def test_errors_of_the_top_come_first(self):
        many = "run\n" * 9 + "count a"
        self.assert_raises(TooLarge, (9,), Rate.read, f"{many}\nper\nsum a")
        self.assert_raises(TooLarge, (9,), Rate.read, f"count a\nper\n{many}")
        self.assert_raises(BadText, (0,), Rate.read, f"count\nper\n{many}")
        self.assert_raises(TooLarge, (9,), Rate.read, f"{many}\nper\ncount")
        self.assert_raises(BadText, (2,), Rate.read, "count a\nper\nsum")
        self.assert_raises(BadFigure, ("last",), Rate.read, "count a\nper\nlast a")

    def test_values(self):
        rate = Rate.read("sum ab\nper\ncount a")
        book, other = Book([(0, "a", 3), (0, "b", 4), (1, "a", None)]), Book([(2, "b", 9)])
        self.assertEqual(Frac(7, 2), rate([book]))
        self.assertEqual(Frac(8), rate([book, other]))
        for books in ([], [other], [Book()], [other, other]):
            self.assertEqual(Frac(0), rate(books))
            self.assertIs(Frac, type(rate(books)))
        self.assertIs(Frac, type(rate((book, other))))

    def test_equality(self):
        rate = Rate.read("sum ab\nper\ncount a")
        self.assertFalse(rate == Rate.read("sum ab\nper\ncount b"))
        self.assertFalse(rate == Rate.read("sum a\nper\ncount a"))
        self.assert_unequal_to_others(rate, [rate.text(), None, 0, rate.top])


class SheetTest(BureauCase):
    def test_tables_and_values(self):
        pipeline = Pipeline.read("against a c\nsift abc")
        formula = Formula.share(Marks("a"), Marks("abc"))
        sheet = Sheet(pipeline, formula)
        self.assertEqual(pipeline, sheet.pipeline)
        self.assertIs(formula, sheet.formula)
        book, other = Book([(0, "a", 3), (0, "b", None), (0, "f", 1)]), Book([(9, "b", 2)])
        self.assertEqual(Table(), sheet.table([]))
        self.assertEqual(Table(a=1, b=1, c=1), sheet.table([book]))
        self.assertEqual(Table(a=2, b=3, c=2), sheet.table([book, other, book]))
        for books in ([], [book], [book, other], [Book(), other]):
            self.assertEqual(formula(sheet.table(books)), sheet(books))
            self.assertIs(Frac, type(sheet(books)))
        self.assertEqual(Frac(1, 3), sheet([book]))

    def test_tables_are_new(self):
        sheet = Sheet(Pipeline(), Formula.zero())
        table = sheet.table([Book([(0, "a", 3)])])
        table["a"] = 9
        self.assertEqual(Table(a=1), sheet.table([Book([(0, "a", 3)])]))


if __name__ == "__main__":
    unittest.main()
