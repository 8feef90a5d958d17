import random
import unittest

from judge_search import has_form, random_book, random_report, rows_for, small_books
from support import BureauCase
from test_late import doubled_books, late_books

from pagebureau.base.errors import BadBounds, BadWay, NotPlain, TooLarge
from pagebureau.base.rows import Book
from pagebureau.flows.figures import Report
from pagebureau.judge.late import on_time, steadfast
from pagebureau.judge.letters import effort, mark_classes
from pagebureau.judge.moves import Move

WAYS = {"late": late_books, "doubled": doubled_books}
NOT_PLAIN = ("run", "change", "total")


def change_at(report, way, book, place):
    """The change of the figure at a place of a book."""
    return report(dict(WAYS[way](book))[place]) - report(book)


def greatest_change(report, way, books):
    changes = [abs(report(other) - report(book)) for book in books for _, other in WAYS[way](book)]
    return max(changes, default=0)


def small_bounded_books(report, low, high):
    """Small books whose amounts are low or high."""
    marks = [letters[0] for letters in mark_classes(report)]
    most = rows_for(marks)
    return most, small_books(most, marks, [None, *sorted({low, high})])


def plain_reports(seed, many):
    source = random.Random(seed)
    found = []
    while len(found) < many:
        report = random_report(source, source.randint(0, 3), without=NOT_PLAIN)
        if effort(report) ** 2 <= 4000:
            found.append(report)
    return found


class MoveCase(BureauCase):
    def check_farther(self, move, count):
        pair = move.farther(count)
        if pair is None:
            return None
        book, place = pair
        self.assertIs(tuple, type(pair))
        self.assertTrue(type(book) is Book and has_form(book, [None, *range(move.low, move.high + 1)] if move.high - move.low < 100 else
                                                         [None, move.low, move.high]))
        change = abs(change_at(move.report, move.way, book, place))
        self.assertGreaterEqual(change, count, (move.report.text(), move.way))
        return change

    def check(self, report, way, low, high):
        """Holds a move against small books."""
        move = Move(report, way, low, high)
        self.assertEqual((report, way, low, high), (move.report, move.way, move.low, move.high))
        _, books = small_bounded_books(report, low, high)
        least = greatest_change(report, way, books)
        if move.most is None:
            for count in (1, 2, 17, 1000):
                self.assertIsNotNone(self.check_farther(move, count))
        else:
            self.assertLessEqual(least, move.most, (report.text(), way, low, high))
            self.assertIsNone(move.farther(move.most + 1))
            self.assertIsNone(move.farther(move.most + 10 ** 20))
            for count in {1, (move.most + 1) // 2, move.most} - {0}:
                self.assertEqual(move.most >= count, self.check_farther(move, count) is not None)
        return move.most, least


class SmallBooksTest(MoveCase):
    def test_random_reports(self):
        source = random.Random(1201)
        found = []
        for report in plain_reports(1202, 120):
            low = source.choice((-2, 0, 0, 1, -7))
            for way in WAYS:
                found.append(self.check(report, way, low, low + source.choice((0, 1, 1, 5))))
        self.assertLess(60, len([most for most, least in found if most == least and most != 0]))
        self.assertLess(60, len([most for most, _ in found if most == 0]))

    def test_reports_that_fill_down(self):
        source = random.Random(1207)
        found = []
        for report in plain_reports(1208, 60):
            halt = source.choice(("", " halt b", " halt a"))
            words = report.text().split("\n")[-1].split(" ")
            steps = [step.text() for step in report.pipeline][:1]
            filled = Report.read("\n".join([f"fill down{halt}", *steps, f"sum {words[1]}"]))
            if effort(filled) ** 2 <= 4000:
                found.append(self.check(filled, source.choice(("late", "doubled")), 0, source.choice((0, 1, 3)))[0])
        self.assertLess(5, found.count(None))
        self.assertLess(5, len(found) - found.count(None))

    def test_reports_that_fill_up(self):
        # Amounts come to a row from below the change, and other ones than those of the book.
        source = random.Random(1209)
        found = []
        for report in plain_reports(1210, 90):
            before = source.choice(("times 3", "times -2", "against a b", "against abcdef a\ntimes 2", "fill down rows 1", "keep over: full", "sift ab"))
            fill = f"fill up rows {source.choice((1, 1, 2, 3))}" + source.choice(("", " halt a", " halt abcdef"))
            steps = [step.text() for step in report.pipeline][:1]
            filled = Report.read("\n".join([before, fill, *steps, f"{source.choice(('sum', 'last', 'full'))} {source.choice(('a', 'ab', 'abcdef'))}"]))
            if effort(filled) ** 2 <= 4000:
                low = source.choice((-2, -1, 0, 1))
                found.append(self.check(filled, source.choice(("late", "doubled")), low, low + source.choice((0, 1, 3))))
        self.assertLess(30, len([most for most, least in found if most == least and most != 0]))

    def test_all_amounts_between_the_bounds(self):
        for report in plain_reports(1203, 25):
            if len(mark_classes(report)) <= 2:
                marks = [letters[0] for letters in mark_classes(report)]
                for way in WAYS:
                    most = Move(report, way, -1, 2).most
                    least = greatest_change(report, way, small_books(2, marks, (None, -1, 0, 1, 2)))
                    self.assertTrue(most is None or least <= most)

    def test_random_books(self):
        source = random.Random(1204)
        for report in plain_reports(1205, 40):
            for way in WAYS:
                most = Move(report, way, -3, 4).most
                books = [random_book(source, 9, (None, -3, -1, 0, 4, 4)) for _ in range(30)]
                self.assertTrue(most is None or greatest_change(report, way, books) <= most, report.text())

    def test_moves_of_reports_that_are_on_time_or_steadfast(self):
        # With the amounts 0 and 1, figures differ exactly if they do with any amounts.
        for report in plain_reports(1206, 60):
            self.assertIs(on_time(report) is None, Move(report, "late", 0, 1).most == 0)
            self.assertIs(steadfast(report) is None, Move(report, "doubled", 0, 1).most == 0)


class ToldMovesTest(MoveCase):
    def test_told_cases(self):
        for text, low, high, late, doubled in [
            ("fill down\nsum a", 0, 5, None, 5), ("sum a", -3, 2, 0, 3), ("count a", 0, 0, 0, 1), ("full abcdef", 3, 3, 0, 1), ("days a", 0, 9, 0, 0),
            ("last a", -3, 2, 5, 0), ("last a", 2, 2, 0, 0), ("last -", 0, 9, 0, 0), ("sum -", -5, 5, 0, 0), ("keep over: full\nsum a", 0, 4, 4, 0),
            ("keep over: full\nsum abcdef", -4, 4, 8, 0), ("keep hold: in a\ncount b", 0, 1, 1, 0), ("keep over: in a\ncount ab", 0, 1, 1, 0),
            ("times 3\nsum a", 1, 2, 0, 6), ("times -1000\nsum a", -2, 1, 0, 2000), ("times 0\nsum a", 5, 9, 0, 0), ("fill drop\ncount a", 0, 0, 0, 1),
            ("against a b\nsum ab", 0, 9, 0, 9), ("against a b\nsum b", 0, 9, 0, 9), ("against a b\nlast ab", 1, 1, 2, 0), ("fill down rows 1\nsum abcdef", 0, 3, 3, 3), ("fill down rows 1\nfull abcdef", 0, 3, 1, 1),
            ("fill down\nlast a", 0, 3, 3, 0), ("fill down rows 2\nfull abcdef", 0, 3, 1, 1), ("fill down\nfull a", 0, 3, 1, 1), ("fill up rows 1\nsum abcdef", 1, 1, 1, 1),
            ("times 3\nfill up rows 1\nsum a", 1, 1, 3, 3), ("fill down\ntimes -2\nfill up rows 2\nlast a", 1, 2, 4, 4), ("fill up rows 2\nlast a", 1, 1, 1, 1),
            ("against a b\ntimes 5\nfill up rows 2\nsum ab", 1, 1, 10, 5), ("fill up rows 1\nfill up rows 1\nfull a", 1, 1, 1, 1),
            ("rename abc d\nlast d", 7, 9, 2, 0), ("keep first: full\ndays a", 0, 0, 1, 0), ("fill down\nfill drop\ncount b", 0, 0, 1, 1),
        ]:
            report = Report.read(text)
            with self.subTest(text=text):
                most, doubled_most = (self.check(report, way, low, high)[0] for way in ("late", "doubled"))
                self.assertEqual((late, doubled), (most, doubled_most))

    def test_a_move_without_a_bound(self):
        move = Move(Report.read("fill down\nsum a"), "late", 0, 5)
        self.assertIsNone(move.most)
        for count in (1, 4, 5, 6, 999, 1000):
            self.assertLessEqual(count, self.check_farther(move, count))
        low = Move(Report.read("fill down\ncount a"), "late", 0, 5)
        self.assertEqual((0, None), (low.most, low.farther(1)))

    def test_bounds_of_15_digits(self):
        last = 10 ** 15 - 1
        move = self.check(Report.read("sum a"), "doubled", -last, last)
        self.assertEqual(last, move[0])
        self.assertEqual(2 * last, self.check(Report.read("last a"), "late", -last, last)[0])
        self.assertEqual(1000 * last, self.check(Report.read("times -1000\nsum a"), "doubled", last, last)[0])
        self.assertEqual(last, self.check_farther(Move(Report.read("sum a"), "doubled", last, last), last))
        for low, high in [(-last - 1, 0), (0, last + 1), (last + 1, last + 1), (1, 0), (0, -1), (last, last - 1), (True, 1), (0, True), (False, True)]:
            self.assert_raises(BadBounds, (low, high), Move, Report.read("sum a"), "doubled", low, high)

    def test_errors_in_their_order(self):
        large = "fill up rows 3\nfill up rows 3\nsum ab"
        for text, at in [
            ("run\nsum a", 0), ("sift a\nchange\nrun\nsum a", 1), ("total a\nsum a", 0), ("times 1\nfill up\nrun\nsum a", 1), ("fill down\nfill near_above\nsum a", 1),
            ("keep none: -\nsum a", 0), ("fill drop\nkeep over: most stop\nsum a", 1), ("fill up rows 4\nkeep none: -\nsum a", 0), (large.replace("sum", "total b\nsum"), 2),
        ]:
            self.assert_raises(NotPlain, (at,), Move, Report.read(text), "early", 1, 0)
            self.assert_raises(NotPlain, (at,), Move, Report.read(text), "late", 0, 1)
        for way in ("early", "", "Late", "late ", "doubled\n"):
            self.assert_raises(BadWay, (way,), Move, Report.read(large), way, 1, 0)
        for way in WAYS:
            self.assert_raises(BadBounds, (1, 0), Move, Report.read(large), way, 1, 0)
            self.assert_raises(TooLarge, (4096 ** 2,), Move, Report.read(large), way, 0, 0)
            self.assert_raises(TooLarge, (64 ** 2,), Move, Report.read("fill up rows 2\nfill up rows 1\nsum a"), way, 0, 1)

    def test_efforts_of_63(self):
        for text in (
            "keep over: full\nkeep hold: full\nfill down rows 5\nsum abcdef", "fill up rows 3\nfill down rows 5\nsum abcdef", "fill up rows 2\nfill down rows 1\nlast ab",
            "keep over: in a\nfill up rows 1\nfill down\nsum a", "fill down rows 6\nfill down rows 5\nsum abcdef", "fill down rows 5 halt a\nfill down rows 6\nlast ab",
            "keep over: in a\nkeep hold: in ab, full\nlast ab", "fill up rows 1\nfill down rows 2\nfill down\ncount a",
        ):
            report = Report.read(text)
            self.assertTrue(30 < effort(report) <= 63, effort(report))
            for way in WAYS:
                move = Move(report, way, -2, 3)
                count = 1000 if move.most is None else move.most
                if count:
                    self.assertLessEqual(count, self.check_farther(move, count))


if __name__ == "__main__":
    unittest.main()
