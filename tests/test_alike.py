import random
import unittest

from judge_search import has_form, random_report, rows_for, small_books
from support import BureauCase

from pagebureau.base.errors import NoStep, NotStraight, TooLarge
from pagebureau.base.rows import Book
from pagebureau.flows.figures import Report
from pagebureau.judge.alike import alike, may_swap, needless_steps, parting
from pagebureau.judge.letters import effort, mark_classes


def first_parting(one, other, most, marks):
    """The number of rows of the first small book on which the figures differ, None if there is none."""
    for book in small_books(most, marks):
        if one(book) != other(book):
            return len(book)
    return None


class PartingTest(BureauCase):
    def check(self, one, other):
        """Whether the reports are alike; the answers are held against all small books."""
        book = parting(one, other)
        self.assertIs(book is None, alike(one, other))
        classes = mark_classes(one, other)
        marks = [letters[0] for letters in classes]
        many = first_parting(one, other, rows_for(classes), marks)
        if book is None:
            self.assertIsNone(many, (one.text(), other.text()))
        else:
            self.assertIs(Book, type(book))
            self.assertNotEqual(one(book), other(book))
            self.assertTrue(has_form(book))
            self.assertTrue(many == len(book) or (many is None and len(book) > rows_for(classes)), (one.text(), other.text(), list(book)))
        return book is None

    def test_random_reports(self):
        source = random.Random(1151)
        for _ in range(120):
            one, other = random_report(source), random_report(source)
            if effort(one, other) <= 4000:
                self.assertEqual(self.check(one, other), self.check(other, one))

    def test_reports_that_differ_in_one_thing(self):
        source = random.Random(1152)
        found = [self.check(Report.read("run\nchange\nsum a"), Report.read("sum a"))]
        for _ in range(120):
            one = random_report(source, 4)
            at = source.randrange(len(one.pipeline) + 1)
            steps = [step.text() for step in one.pipeline]
            kind = source.randrange(3)
            if kind == 0:
                steps = steps[:at] + steps[at + 1:]
            elif kind == 1:
                steps.insert(at, source.choice(("fill down", "fill drop", "times -1", "sift ab", "change", "keep hold: full")))
            elif at + 1 < len(steps):
                steps[at], steps[at + 1] = steps[at + 1], steps[at]
            other = Report.read("\n".join([*steps, one.text().split("\n")[-1]]))
            if effort(one, other) <= 4000:
                found.append(self.check(one, other))
        self.assertLess(15, found.count(True))
        self.assertLess(15, found.count(False))

    def test_reports_and_themselves(self):
        source = random.Random(1153)
        for _ in range(60):
            report = random_report(source, 4)
            if effort(report) <= 4000:
                self.assertTrue(self.check(report, report))
                self.assertTrue(alike(report, Report.read(report.text())))

    def test_told_cases(self):
        for one, other, many in [
            ("count a", "count ab", 1), ("count a", "full a", 1), ("full a", "count a", 1), ("count a", "days a", 2), ("sum a", "last a", 2),
            ("sum a", "count a", 1), ("keep over: -\nsum a", "keep hold: -\nsum a", 2), ("keep over: -\ncount abcdef", "days abcdef", None),
            ("keep first: full\nsum a", "keep over: full\nsum a", None), ("keep last: in a\nsum ab", "keep hold: in a\nsum ab", None),
            ("fill down rows 1\nsum a", "fill down rows 2\nsum a", 3), ("fill down rows 2\nsum a", "fill down rows 6\nsum a", 4),
            ("fill down rows 6\nsum a", "fill down\nsum a", 8), ("fill up rows 2\nsum a", "fill up rows 3\nsum a", 4),
            ("fill down halt b\nsum a", "fill down\nsum a", 2 + 1), ("fill down halt a\nsum a", "sum a", None),
            ("times 2\nsum a", "times 3\nsum a", 1), ("times 1\nsum a", "sum a", None), ("times -1\ncount a", "count a", None),
            ("times 0\nsum a", "sum -", None), ("times 0\nfull a", "full a", None), ("run\ntimes 5\nsum a", "times 5\nrun\nsum a", None),
            ("run\nchange\nsum a", "change\nrun\nsum a", None), ("total a\nsum a", "sum abcdef", None), ("total a\ncount a", "days abcdef", None),
            ("total a\ntotal b\nsum b", "total c\nsum c", None), ("total a\nlast a", "sum abcdef", 2), ("against a b\nsum ab", "sum b", None),
            ("fill drop\ncount a", "full a", None), ("rename a b\ncount a", "count -", None), ("rename ab c\ncount c", "count abc", None),
            ("sum a\n"[:-1], "against f e\nsum a", None), ("fill down\nfill up rows 1\nsum a", "fill up rows 1\nfill down\nsum a", 3),
        ]:
            one, other = Report.read(one), Report.read(other)
            book = parting(one, other)
            self.assertEqual(many, None if book is None else len(book), (one.text(), other.text()))

    def test_efforts_of_4000(self):
        steps = "fill down rows 6\nkeep over: full\nkeep hold: full\nkeep over: in a\nfill down rows 1"
        for one, other in [
            (f"{steps}\nsum a", f"{steps}\nlast a"), ("fill up rows 3 halt ab\nfill down halt bc\nsum ac", "fill up rows 3 halt ab\nfill down halt bc\nsum a"),
            ("fill up rows 3 halt a\nfill up rows 2 halt a\ntotal a\nsum a", "fill up rows 3 halt a\nfill up rows 2 halt a\ntotal a\nlast a"),
            ("keep over: in ab, full, in ac, in ad, in ade\nfill up rows 1\nkeep hold: in ac\nsum a", "count ab"),
            ("fill down rows 6\n" * 3 + "fill down rows 5\nsum abcdef", "sum abcdef"),
        ]:
            one, other = Report.read(one), Report.read(other)
            self.assertTrue(1000 < effort(one, other) <= 4000, effort(one, other))
            book = parting(one, other)
            self.assertNotEqual(one(book), other(book))
            self.assertTrue(alike(one, one))

    def test_errors(self):
        straight, large = Report.read("count a"), Report.read("fill up rows 3\n" * 2 + "count ab")
        bent = Report.read("run\nkeep none: -\ncount a")
        for call in (alike, parting):
            self.assert_raises(NotStraight, (1,), call, bent, large)
            self.assert_raises(NotStraight, (1,), call, large, bent)
            self.assert_raises(TooLarge, (4096,), call, straight.with_steps(large.pipeline), straight)
            self.assert_raises(TooLarge, (4096,), call, straight, straight.with_steps(large.pipeline))


class StepsTest(BureauCase):
    def test_may_swap_and_needless_steps(self):
        source = random.Random(1154)
        swaps, needless = [], []
        for _ in range(80):
            report = random_report(source, 4)
            if effort(report) ** 2 > 4000:
                continue
            pipeline = report.pipeline
            for at in range(len(pipeline) - 1):
                swap = may_swap(report, at)
                self.assertIs(alike(report, report.with_steps(pipeline.swapped(at))), swap)
                swaps.append(swap)
            found = needless_steps(report)
            expected = [at for at in range(len(pipeline)) if alike(report, report.with_steps(pipeline.without(at)))]
            self.assertEqual(expected, found)
            needless.append(len(found))
        self.assertTrue({True, False} == set(swaps) and {0, 1} <= set(needless))

    def test_told_cases(self):
        report = Report.read("sift ab\nkeep over: in a\nrun\ntimes 1\ncount b")
        self.assertEqual([False, True, True], [may_swap(report, at) for at in range(3)])
        self.assertEqual([2, 3], needless_steps(report))
        self.assertEqual([], needless_steps(Report.read("count a")))
        self.assertEqual("sift ab\nkeep over: in a\nrun\ntimes 1\ncount b", report.text())

    def test_errors_in_their_order(self):
        bent = Report.read("run\nfill up\ncount a")
        large = Report.read("run\nfill up rows 3\nfill up rows 2\nchange\nchange\nsum a")
        for at in (-1, 0, 1, 5):
            self.assert_raises(NotStraight, (1,), may_swap, bent, at)
        self.assert_raises(NotStraight, (1,), needless_steps, bent)
        for at in (-1, 4, 5):
            self.assert_raises(NoStep, (at,), may_swap, large, at)
        for report in (Report.read("count a"), Report.read("run\ncount a")):
            for at in (-1, 0, 1):
                self.assert_raises(NoStep, (at,), may_swap, report, at)
        self.assertEqual(4096, effort(large))
        for at in (0, 1, 2):
            self.assert_raises(TooLarge, (4096 ** 2,), may_swap, large, at)
        # Exchanging equal steps leaves an equal text, which is counted once.
        self.assert_raises(TooLarge, (4096,), may_swap, large, 3)
        self.assert_raises(TooLarge, (4096 ** 2,), needless_steps, large)
        # The question about the first step is small enough, that about the second one is not.
        middling = Report.read("run\nfill up rows 2\nfill up rows 1\nsum a")
        self.assertEqual(64, effort(middling))
        self.assert_raises(TooLarge, (64 * 64,), needless_steps, middling)
        self.assert_raises(TooLarge, (64 * 64,), may_swap, middling, 1)
        less = Report.read("keep over: full\nfill up rows 2\nrun\nchange\nsum a")
        self.assertEqual(160, effort(less))
        self.assert_raises(TooLarge, (160 * 32,), needless_steps, less)


if __name__ == "__main__":
    unittest.main()
