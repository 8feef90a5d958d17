import random
import unittest

from judge_search import random_report
from support import BureauCase

from pagebureau.base.errors import NotStraight, TooLarge, Untrue
from pagebureau.base.fracs import Frac
from pagebureau.base.marks import Marks
from pagebureau.base.rows import Book
from pagebureau.flows.figures import Report
from pagebureau.judge.alike import alike
from pagebureau.judge.late import on_time, steadfast, unseen
from pagebureau.judge.letters import effort, letters_of
from pagebureau.papers.kinds import BasisPaper, Paper
from pagebureau.papers.making import basis_paper
from pagebureau.papers.reading import alike_by, on_time_by, steadfast_by, unseen_by


def random_reports(seed, many, most=3, limit=63, **more):
    source = random.Random(seed)
    found = []
    while len(found) < many:
        report = random_report(source, source.randint(0, most), **more)
        if effort(report) <= limit:
            found.append(report)
    return found


def with_two_more_books(paper, report):
    """A paper that holds, too, with a book twice and one more book that is told by its shadow."""
    many = len(paper.books)
    first, last = paper.books[0], paper.books[-1]
    letters = letters_of(report)
    letter = letters[-1]
    more = last.followed(Book([(0, letter[1], 1)]), same=letter[0] == "=")
    behind = []
    for shadow in paper.shadows[-1][-1:]:
        behind = [mixed_row(shadow, [paper.shadows[at][k] for at in range(many)]) for k in range(len(letters))]
    shadows = [*paper.shadows, paper.shadows[0], behind]
    half = Frac(1, 2)

    def spread(row):
        # The first book counts half, and once more half behind all others.
        return [half * row[0], *row[1:], half * row[0], 0]

    return BasisPaper([*paper.books, first, more], spread(paper.start), [[spread(row) for row in some] for some in shadows])


def mixed_row(shadow, rows):
    return [Frac.added([factor * row[at] for factor, row in zip(shadow, rows)]) for at in range(len(shadow))]


class ReadingTest(BureauCase):
    def test_what_the_judge_gives(self):
        found = []
        for report in random_reports(1241, 150):
            paper = basis_paper(report)
            answers = [on_time_by(paper, report), steadfast_by(paper, report), unseen_by(paper, report)]
            self.assertTrue(type(answers[0]) is bool and type(answers[1]) is bool and type(answers[2]) is Marks)
            self.assertEqual([on_time(report) is None, steadfast(report) is None, unseen(report)], answers, report.text())
            found.append((answers[0], answers[1], answers[2].text()))
        for at in range(3):
            self.assertLess(1, len({some[at] for some in found}))

    def test_papers_with_more_books(self):
        done = 0
        for report in random_reports(1242, 60, 2):
            paper = basis_paper(report)
            if paper.books:
                more = with_two_more_books(paper, report)
                self.assertIsNone(more.examine(report))
                self.assertEqual([on_time(report) is None, steadfast(report) is None, unseen(report)], [on_time_by(more, report), steadfast_by(more, report), unseen_by(more, report)])
                self.assertTrue(alike_by(more, report, report))
                done += 1
        self.assertLess(40, done)

    def test_alike_reports(self):
        source = random.Random(1243)
        found = []
        while len(found) < 80:
            one = random_report(source, 2)
            other = source.choice([random_report(source, 2), one, one.with_steps(one.pipeline.without(0)) if len(one.pipeline) else one])
            if effort(one, other) <= 300:
                paper = basis_paper(one, other)
                self.assertIs(alike(one, other), alike_by(paper, one, other))
                self.assertIs(alike(one, other), alike_by(Paper.read(paper.text()), other, one))
                found.append(alike(one, other))
        self.assertTrue(10 < sum(found) < 70)

    def test_told_cases(self):
        for text, timely, steady, marks in [
            ("sum a", True, False, "bcdef"), ("last a", False, True, "bcdef"), ("days ab", True, True, "cdef"), ("keep over: in a\ncount a", True, True, "bcdef"),
            ("fill down\nsum a", False, False, "-"), ("sum -", True, True, "abcdef"), ("times 0\nrun\nlast c", True, True, "abcdef"), ("total a\nlast b", True, True, "abcdef"),
            ("total a\ncount a", True, True, "-"), ("change\nsum abcdef", False, True, "-"), ("sift de\nfull abc", True, True, "abcdef"),
            ("rename abcde f\nkeep last: full\nsum f", False, True, "-"),
        ]:
            report = Report.read(text)
            paper = basis_paper(report)
            self.assertEqual((timely, steady, marks), (on_time_by(paper, report), steadfast_by(paper, report), unseen_by(paper, report).text()), text)

    def test_efforts_beyond_those_of_the_judge(self):
        for text in (
            "fill up rows 1 halt bcdef\nchange\nfill down rows 3\nkeep first: in ab, empty\nfill down rows 3\nlast b", "fill up rows 3 halt ab\nsum ac", "fill down rows 6\n" * 3 + "fill down rows 5\nsum a",
            "fill up rows 2\nfill down rows 3\nkeep last: empty\nfill down rows 3\nsum abcdef",
        ):
            report = Report.read(text)
            self.assertTrue(63 < effort(report) <= 4000, effort(report))
            paper = basis_paper(report)
            self.assertEqual((False, "-"), (on_time_by(paper, report), unseen_by(paper, report).text()))
            self.assertIn(steadfast_by(paper, report), (True, False))
            self.assertTrue(alike_by(paper, report, report))

    def test_what_examining_raises(self):
        report, other = Report.read("sum a"), Report.read("count a")
        paper = basis_paper(report)
        bent, large = Report.read("run\nkeep none: -\nsum a"), Report.read("fill up rows 3\nfill up rows 3\nsum ab")
        for call in (on_time_by, steadfast_by, unseen_by):
            self.assert_raises(NotStraight, (1,), call, paper, bent)
            self.assert_raises(TooLarge, (4096,), call, paper, large)
            self.assert_raises(Untrue, ("shadow", 0), call, paper, other)
            self.assert_raises(Untrue, ("lengths", -1), call, BasisPaper(paper.books, [1], paper.shadows), report)
            self.assert_raises(Untrue, ("shadow", 1), call, BasisPaper(paper.books, paper.start, [paper.shadows[0]] * 2), report)
        self.assert_raises(NotStraight, (1,), alike_by, paper, large, bent)
        self.assert_raises(NotStraight, (1,), alike_by, paper, bent, large)
        self.assert_raises(TooLarge, (4096,), alike_by, paper, large, large)
        self.assert_raises(Untrue, ("shadow", 0), alike_by, paper, report, other)
        self.assert_raises(Untrue, ("shadow", 0), alike_by, paper, other, other)

    def test_papers_stay_as_they_are(self):
        report = Report.read("fill down rows 1\nlast ab")
        paper = basis_paper(report)
        text = paper.text()
        on_time_by(paper, report)
        steadfast_by(paper, report)
        unseen_by(paper, report)
        alike_by(paper, report, report)
        self.assertEqual(text, paper.text())


if __name__ == "__main__":
    unittest.main()
