import random
import unittest

from judge_search import ALL, has_form, random_report, rows_for, small_books
from support import BureauCase

from pagebureau.base.errors import BadRow, NoMark, NotStraight, TooLarge
from pagebureau.base.marks import Marks
from pagebureau.base.rows import Book
from pagebureau.flows.figures import Report
from pagebureau.judge.late import batched, on_time, seen_row, steadfast, unseen
from pagebureau.judge.letters import effort, mark_classes


def late_books(book):
    """The pairs of a place and the book with two rows of one day exchanged there."""
    for place in range(len(book) - 1):
        try:
            yield place, book.swapped(place)
        except BadRow:
            pass


def doubled_books(book):
    for place in range(len(book)):
        yield place, book.copied(place)


def books_without(mark):
    def changed(book):
        for place in range(len(book)):
            if book[place][1] == mark:
                yield place, book.without(place)
    return changed


def figure_in_batches(report, book, cut):
    rows = list(book)
    return report(Book(list(report.pipeline(Book(rows[:cut]))) + rows[cut:]))


def is_batched_at(report, book, cut):
    return figure_in_batches(report, book, cut) == report(book)


class LateCase(BureauCase):
    def least(self, report, changed, most, marks):
        """The number of rows of the first small book whose figure some change changes, None if there is none."""
        for book in small_books(most, marks):
            if any(report(other) != report(book) for _, other in changed(book)):
                return len(book)
        return None

    def check_pair(self, report, pair, changed, more_marks=""):
        """Holds an answer against all small books; returns whether there is a counterexample."""
        classes = mark_classes(report)
        marks = "".join(sorted({letters[0] for letters in classes} | set(more_marks)))
        most = rows_for(marks)
        least = self.least(report, changed, most, marks)
        if pair is None:
            self.assertIsNone(least, report.text())
            return False
        book, place = pair
        self.assertIs(tuple, type(pair))
        self.assertTrue(type(book) is Book and has_form(book))
        self.assertNotEqual(report(book), report(dict(changed(book))[place]), report.text())
        self.assertTrue(least == len(book) or (least is None and len(book) > most), (report.text(), list(book)))
        return True

    def reports(self, seed, many, steps=3, **more):
        source = random.Random(seed)
        found = []
        while len(found) < many:
            report = random_report(source, source.randint(0, steps), **more)
            if effort(report) ** 2 <= 4000:
                found.append(report)
        return found

    def check_errors(self, question, *more):
        bent = Report.read("run\nfill up\nkeep none: -\ncount a")
        self.assert_raises(NotStraight, (1,), question, bent, *more)
        self.assertEqual(64, effort(Report.read("fill up rows 2\nfill up rows 1\nsum a")))
        self.assert_raises(TooLarge, (4096,), question, Report.read("fill up rows 2\nfill up rows 1\nsum a"), *more)
        self.assert_raises(TooLarge, (72 ** 2,), question, Report.read("fill down\n" * 2 + "total a\n" * 2 + "days a"), *more)
        large = Report.read("fill down rows 6\nkeep over: full\nkeep hold: full\nsum abcdef")
        self.assertEqual(72, effort(large))
        self.assert_raises(TooLarge, (72 ** 2,), question, large, *more)


class OnTimeTest(LateCase):
    def test_random_reports(self):
        found = [self.check_pair(report, on_time(report), late_books) for report in self.reports(1171, 120)]
        self.assertTrue(20 < sum(found) < 100)

    def test_told_cases(self):
        for text, many in [
            ("count a", None), ("last a", 2), ("last -", None), ("days ab", None), ("run\nsum a", 2), ("run\nlast abcdef", None),
            ("change\nsum a", 2), ("keep over: full\ncount abcdef", None), ("keep over: full\nsum abcdef", 2), ("keep over: -\nsum a", 2),
            ("keep hold: in a\nfull a", 2), ("keep first: in a, full\ncount a", None), ("keep first: in a\ncount b", 2),
            ("keep first: in a, in b, in c, in d, in e\ncount a", None),
            ("sift ab\nkeep over: in a\ncount b", None), ("fill down\nsum a", 2), ("fill down rows 1\nfull a", 2), ("fill up rows 1 halt b\nfull a", 2),
            ("total a\nsum a", None), ("total a\nchange\nsum a", None), ("total a\nrun\nlast a", None), ("against a b\nlast b", 2),
        ]:
            report = Report.read(text)
            pair = on_time(report)
            self.assertEqual(many, None if pair is None else len(pair[0]), text)
            self.check_pair(report, pair, late_books)

    def test_errors(self):
        self.check_errors(on_time)


class SteadfastTest(LateCase):
    def test_random_reports(self):
        found = [self.check_pair(report, steadfast(report), doubled_books) for report in self.reports(1172, 120)]
        self.assertTrue(20 < sum(found) < 100)

    def test_told_cases(self):
        for text, many in [
            ("count a", 1), ("days a", None), ("last a", None), ("sum -", None), ("full a", 1), ("keep over: full\ncount abcdef", None),
            ("keep hold: full\nsum abcdef", None), ("keep over: in a\nfill down\ncount a", None), ("total a\nsum a", 1), ("total a\nfull a", None),
            ("change\nsum abcdef", None), ("change\nlast a", 1), ("run\nlast a", 1), ("times 0\nrun\nlast a", None),
            ("fill down rows 1\ndays a", None), ("fill down rows 1\nlast a", None), ("fill up rows 1\nlast ab", None),
        ]:
            report = Report.read(text)
            pair = steadfast(report)
            self.assertEqual(many, None if pair is None else len(pair[0]), text)
            self.check_pair(report, pair, doubled_books)

    def test_errors(self):
        self.check_errors(steadfast)


class UnseenTest(LateCase):
    def test_random_reports(self):
        found = []
        for report in self.reports(1173, 60):
            marks = unseen(report)
            self.assertIs(Marks, type(marks))
            for mark in ALL:
                pair = seen_row(report, mark)
                self.assertIs(mark in marks, pair is None, report.text())
                if pair is not None:
                    self.assertEqual(mark, pair[0][pair[1]][1])
                found.append(self.check_pair(report, pair, books_without(mark), mark))
        self.assertTrue(60 < sum(found) < 340)

    def test_told_cases(self):
        for text, marks in [
            ("count a", "bcdef"), ("count -", "abcdef"), ("sift ab\nsum abcdef", "cdef"), ("keep over: in a\ncount a", "bcdef"),
            ("keep over: in a\ncount b", "-"), ("keep over: in a\ncount ab", "-"), ("sift ab\nkeep over: in a\ncount ab", "cdef"),
            ("keep over: -\nsift ab\ncount a", "-"), ("total c\ncount abdef", "abcdef"), ("total c\nsum c", "-"), ("fill down rows 1\nsum a", "-"),
            ("fill drop\nsum ef", "abcd"), ("rename ab c\nlast c", "def"), ("against a b\nsum ab", "acdef"), ("times 0\nsum a", "abcdef"),
            ("keep over: full\nsum -", "abcdef"), ("run\nsift f\nsum f", "-"), ("sift f\nrun\nsum f", "abcde"), ("total a\ndays a", "-"),
        ]:
            self.assertEqual(marks, unseen(Report.read(text)).text(), text)

    def test_marks_that_are_not_the_least_of_their_class(self):
        report = Report.read("keep over: full\nsum bc")
        for mark in ALL:
            book, place = seen_row(report, mark)
            self.assertEqual(mark, book[place][1])
            self.assertNotEqual(report(book), report(book.without(place)))

    def test_errors(self):
        self.check_errors(unseen)
        self.check_errors(seen_row, "b")
        bent, large = Report.read("keep none: -\ncount a"), Report.read("fill up rows 3\nsum ab")
        for mark in ("", "g", "A", "ab", "-", "a\n"):
            self.assert_raises(NoMark, (mark,), seen_row, bent, mark)
            self.assert_raises(NoMark, (mark,), seen_row, large, mark)


class BatchedTest(LateCase):
    def check(self, report):
        marks = [letters[0] for letters in mark_classes(report)]
        most = rows_for(marks)
        least = None
        for book in small_books(most, marks):
            if not all(is_batched_at(report, book, cut) for cut in range(len(book) + 1)):
                least = len(book)
                break
        pair = batched(report)
        if pair is None:
            self.assertIsNone(least, report.text())
            return False
        book, cut = pair
        self.assertTrue(type(book) is Book and has_form(book) and 0 <= cut <= len(book))
        self.assertFalse(is_batched_at(report, book, cut), report.text())
        self.assertTrue(least == len(book) or (least is None and len(book) > most), (report.text(), list(book)))
        return True

    def test_random_reports(self):
        found = [self.check(report) for report in self.reports(1174, 120)]
        self.assertTrue(10 < sum(found) < 110)

    def test_reports_with_days_that_leave_nothing(self):
        # What is left of the rows before the cut may end on an earlier day than these rows.
        for text in (
            "sift a\nkeep over: -\ncount a", "sift ab\ntotal a\ncount a", "fill drop\nkeep hold: in a\nsum ab", "fill drop\ntotal b\nlast b",
            "sift a\ndays abcdef", "keep over: full\nsift a\nsum a", "keep over: in a\nsift b\nfill down\nsum b", "keep hold: -\nsift a\ncount a",
        ):
            self.check(Report.read(text))

    def test_told_cases(self):
        for text, many in [
            ("count a", None), ("sift a\nsum abcdef", None), ("keep over: full\nsum abcdef", None), ("keep hold: full\ncount a", None),
            ("keep last: in a\nsum ab", None), ("run\nlast abcdef", 2), ("run\nsum a", 2), ("change\nsum abcdef", 2), ("times 2\nsum a", 1),
            ("times -1\nsum a", 1), ("times 0\nsum a", None), ("times 1\nsum a", None), ("total a\nsum a", None), ("total a\ncount a", None),
            ("against a a\ncount a", 1), ("against a b\ncount b", 1), ("against a b\nsum ab", 1), ("rename a b\ncount ab", None),
            ("fill down\nfull a", None), ("fill down rows 1\nfull a", 3), ("fill up rows 1\nfull a", 3), ("fill up rows 2\nfull a", 4),
            ("fill drop\ncount a", None), ("days a", None), ("rename a b\nrename b c\ncount c", None), ("rename b c\nrename a b\ncount b", 1),
        ]:
            pair = batched(Report.read(text))
            self.assertEqual(many, None if pair is None else len(pair[0]), text)

    def test_cuts_at_the_ends(self):
        # Before all rows nothing is left out; behind the last row the pipeline is run twice.
        report = Report.read("times 2\nsum a")
        book, cut = batched(report)
        self.assertEqual((1, 1), (len(book), cut))
        self.assertTrue(is_batched_at(report, book, 0))

    def test_errors(self):
        self.check_errors(batched)


class EffortsTest(BureauCase):
    def test_efforts_of_63(self):
        source = random.Random(1175)
        for text in (
            "keep over: full\nkeep hold: full\nfill down rows 5\nsum abcdef", "fill up rows 3\nfill down rows 5\nsum abcdef",
            "keep over: in a\nfill up rows 1\nfill down\nsum a", "total a\ntotal b\ntotal c\nchange\nlast c", "fill up rows 2\nfill down rows 1\nlast ab",
            "keep over: in ab, full, in c, in de\nchange\nfill down\nsum abd", "fill down rows 6\nfill down rows 5\ncount abcdef",
            "fill down rows 5 halt a\nfill down rows 6 halt ab\nsum ab",
        ):
            report = Report.read(text)
            self.assertTrue(30 < effort(report) <= 63, effort(report))
            for question, changed in ((on_time, late_books), (steadfast, doubled_books)):
                pair = question(report)
                if pair is not None:
                    self.assertNotEqual(report(pair[0]), report(dict(changed(pair[0]))[pair[1]]))
            mark = source.choice(ALL)
            self.assertIs(mark in unseen(report), seen_row(report, mark) is None)
            pair = batched(report)
            if pair is not None:
                self.assertFalse(is_batched_at(report, *pair))


if __name__ == "__main__":
    unittest.main()
