import random
import unittest

from judge_search import random_book, random_report, random_set, random_step
from support import BureauCase

from pagebureau.base.errors import BadRow, NotStraight
from pagebureau.base.marks import Marks
from pagebureau.base.rows import Book
from pagebureau.flows.figures import WORDS, Report
from pagebureau.flows.flow import Flow, figures_along

# For each kind of straight step some texts.
STEPS = (
    "sift ab", "sift -", "rename ab c", "rename - a", "keep over: full", "keep hold: in a", "keep first: empty, in bc", "keep last: -",
    "keep hold: -", "keep over: in ab, full", "fill down", "fill down halt b", "fill down rows 1", "fill down rows 6 halt ac", "fill up rows 1",
    "fill up rows 2 halt b", "fill up rows 3", "fill up rows 3 halt abcdef", "fill drop", "run", "change", "total a", "total f", "against ab c",
    "against abcdef a", "times -1", "times 0", "times 1000",
)


def figures_by_books(report, rows):
    return [report(Book(rows[:many + 1])) for many in range(len(rows))]


class FlowTest(BureauCase):
    def check(self, report, rows):
        flow = Flow(report)
        self.assertEqual((0, 0), (flow.taken, flow.figure))
        for at, figure in enumerate(figures_by_books(report, rows)):
            self.assertIsNone(flow.take(rows[at]))
            self.assertEqual((at + 1, figure), (flow.taken, flow.figure), (report.text(), rows[:at + 1]))

    def test_each_kind_of_step_alone(self):
        source = random.Random(1121)
        for step in STEPS:
            for word in WORDS:
                for _ in range(6):
                    report = Report.read(f"{step}\n{word} {random_set(source)}")
                    self.check(report, list(random_book(source, 10)))

    def test_no_step(self):
        source = random.Random(1122)
        for word in WORDS:
            self.check(Report.read(f"{word} abd"), list(random_book(source, 12)))

    def test_pipelines_of_up_to_eight_steps(self):
        source = random.Random(1123)
        for _ in range(500):
            steps = [random_step(source) for _ in range(source.randint(2, 8))]
            report = Report.read("\n".join([*steps, f"{source.choice(WORDS)} {random_set(source)}"]))
            self.check(report, list(random_book(source, 12)))

    def test_amounts_of_15_digits(self):
        long = 10 ** 15 - 1
        rows = [(0, "a", long), (0, "a", -long), (1, "a", None), (9999, "a", long), (9999, "a", None)]
        for text in ("times 1000\n" * 8 + "sum a", "run\n" * 8 + "last a", "against a b\n" * 3 + "change\n" * 5 + "sum ab"):
            self.check(Report.read(text), rows)

    def test_steps_that_are_not_straight(self):
        for text, at in [
            ("keep none: -\ncount a", 0), ("run\nfill up\ncount a", 1), ("run\nrun\nfill up rows 4\nkeep none: -\ncount a", 2),
            ("fill near_above rows 1\ncount a", 0), ("keep over: full, most skip\nsum a", 0),
        ]:
            self.assert_raises(NotStraight, (at,), Flow, Report.read(text))

    def test_rows_that_are_none(self):
        flow = Flow(Report.read("keep over: full\nsum ab"))
        for row in ((-1, "a", 1), (10000, "a", 1), (0, "g", 1), (0, "a", 10 ** 40), (0, "a", True), [0, "a", 1], (0, "a"), None, "row", (True, "a", 1)):
            self.assert_raises(BadRow, (0,), flow.take, row)
        self.assertEqual((0, 0), (flow.taken, flow.figure))
        flow.take((5, "a", 4))
        flow.take((5, "a", None))
        for row in ((4, "a", 1), (0, "b", None), (5, "", 1), (6, "a", 1.5), None):
            self.assert_raises(BadRow, (2,), flow.take, row)
            self.assertEqual((2, 4), (flow.taken, flow.figure))
        flow.take((5, "b", 7))
        flow.take((9999, "b", 7))
        self.assertEqual((4, 11), (flow.taken, flow.figure))
        self.assert_raises(BadRow, (4,), flow.take, (9998, "b", 7))

    def test_a_copy_goes_its_own_way(self):
        source = random.Random(1124)
        for _ in range(60):
            report = random_report(source, 5)
            rows = list(random_book(source, 8))
            flow = Flow(report)
            copies = [flow.copy()]
            for row in rows:
                flow.take(row)
                copies.append(flow.copy())
            for many, copy in enumerate(copies):
                self.assertIs(Flow, type(copy))
                self.assertEqual((many, report(Book(rows[:many]))), (copy.taken, copy.figure))
                more = [(9999, "b", 5), (9999, "a", None)]
                for row in more:
                    copy.take(row)
                self.assertEqual(report(Book(rows[:many] + more)), copy.figure)
            self.assertEqual((len(rows), report(Book(rows))), (flow.taken, flow.figure))

    def test_the_properties_are_only_read(self):
        flow = Flow(Report.read("count a"))
        for name in ("taken", "figure"):
            with self.assertRaises(AttributeError):
                setattr(flow, name, 5)


class AlongTest(BureauCase):
    def test_figures(self):
        source = random.Random(1125)
        for _ in range(100):
            report, rows = random_report(source, 6), list(random_book(source, 10))
            told = list(rows)
            self.assertEqual(figures_by_books(report, rows), list(figures_along(report, rows)))
            self.assertEqual(told, rows)
        self.assertEqual([], list(figures_along(Report.read("run\nsum a"), [])))
        self.assertEqual([0, 2], list(figures_along(Report.read("sum a"), ((0, "b", 1), (0, "a", 2)))))

    def test_a_bad_row_comes_behind_the_figures_before_it(self):
        rows = [(1, "a", 5), (1, "b", 6), (0, "a", 7), (2, "a", 8)]
        along = figures_along(Report.read("sum ab"), rows)
        self.assertEqual([5, 11], [next(along), next(along)])
        self.assert_raises(BadRow, (2,), next, along)
        self.assert_raises(BadRow, (0,), next, figures_along(Report.read("sum ab"), [None]))

    def test_not_straight_comes_before_the_first_figure(self):
        for rows in ([], [(0, "a", 1)], [None]):
            along = figures_along(Report.read("run\nfill up\nsum a"), rows)
            self.assert_raises(NotStraight, (1,), next, along)

    def test_long_books_and_long_pipelines(self):
        rows = [(place // 3, "abc"[place % 3], None if place % 4 else place) for place in range(200)]
        for text in (
            "against abcdef a\n" * 8 + "sum a", "against abcdef a\nfill up rows 3\n" * 4 + "sum a", "fill up rows 3\nkeep hold: in a\n" * 4 + "last abc",
            "total a\nrun\n" * 4 + "sum a", "fill down rows 6\nagainst a b\n" * 4 + "days ab",
        ):
            report = Report.read(text)
            figures = list(figures_along(report, rows))
            self.assertEqual(200, len(figures))
            for many in (1, 77, 200):
                self.assertEqual(report(Book(rows[:many])), figures[many - 1])


if __name__ == "__main__":
    unittest.main()
