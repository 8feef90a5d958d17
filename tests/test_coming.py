import random
import sys
import unittest
from itertools import product

from judge_search import ALL, has_form, random_set, random_step, small_books, small_set
from shares_search import random_told, shared
from support import BureauCase

from pagebureau.base.errors import NoMark, NotFree, NotStraight, TooLarge
from pagebureau.base.marks import Marks
from pagebureau.base.rows import Book
from pagebureau.flows.figures import Report
from pagebureau.flows.pipelines import Pipeline
from pagebureau.judge.alike import parting
from pagebureau.judge.coming import coming, coming_book, is_free, parting_sheets, unit_book
from pagebureau.judge.letters import pipeline_effort
from pagebureau.shares.comparing import parting_table, same_formula
from pagebureau.shares.formulas import Formula
from pagebureau.shares.tables import Table


def random_pipelines(seed, many, most=3, some_set=small_set, marks="abc"):
    """Straight pipelines of efforts that are not too large."""
    source = random.Random(seed)
    found = []
    while len(found) < many:
        steps = [random_step(source, some_set, marks) for _ in range(source.randint(0, most))]
        pipeline = Pipeline.read("\n".join(steps)) if steps else Pipeline()
        if pipeline_effort(pipeline) <= 4000:
            found.append(pipeline)
    return found


def calls_in(call, *given):
    """How many functions run in a call."""
    found = []
    sys.setprofile(lambda frame, event, value: found.append(frame) if event == "call" else None)
    try:
        call(*given)
    except NotFree:
        pass
    finally:
        sys.setprofile(None)
    return len(found)


def left_of_small_books(pipeline, most, marks):
    """Pairs of small books and the marks of the rows that the pipeline leaves of them."""
    return [(book, "".join(row[1] for row in pipeline(book))) for book in small_books(most, marks, (None, 0))]


class ComingTest(BureauCase):
    def check(self, pipeline, most=2):
        """Holds the answers against small books."""
        left = left_of_small_books(pipeline, 2, ALL) + (left_of_small_books(pipeline, most, "abc") if most > 2 else [])
        marks = coming(pipeline)
        self.assertIs(Marks, type(marks))
        for mark in ALL:
            rows = [len(book) for book, letters in left if mark in letters]
            units = [len(book) for book, letters in left if mark == letters]
            for call, least, is_right in (
                (coming_book, rows, lambda letters: mark in letters), (unit_book, units, lambda letters: mark == letters),
            ):
                book = call(pipeline, mark)
                if book is None:
                    self.assertEqual([], least, (call.__name__, mark, pipeline.text()))
                else:
                    self.assertTrue(type(book) is Book and has_form(book))
                    self.assertTrue(is_right("".join(row[1] for row in pipeline(book))))
                    self.assertTrue(len(book) == min(least) if least else len(book) > 2, (call.__name__, mark, pipeline.text()))
            self.assertIs(mark in marks, coming_book(pipeline, mark) is not None)
        self.assertIs(is_free(pipeline), all(unit_book(pipeline, mark) is not None for mark in marks))

    def test_random_pipelines(self):
        pipelines = random_pipelines(1191, 80)
        for pipeline in pipelines:
            self.check(pipeline)
        self.assertLess(4, len([pipeline for pipeline in pipelines if not is_free(pipeline)]))

    def test_longer_books(self):
        for text in (
            "fill up rows 2 halt b\nfill drop\nagainst a b", "fill drop\nkeep over: in a\nagainst b c", "total c\nfill up rows 1\nagainst c d",
            "keep last: full, in b\nagainst bc c\nkeep hold: -\nsift cd", "keep over: full\nfill down rows 1\nfill drop\nrename a f",
        ):
            self.check(Pipeline.read(text), 3)

    def test_marks_that_come_and_their_books(self):
        # Each answer is found in a way of its own, so that they hold against each other.
        for pipeline in random_pipelines(1194, 150, 4, random_set, ALL):
            marks = coming(pipeline)
            self.assertEqual(marks, Marks("".join(mark for mark in ALL if coming_book(pipeline, mark) is not None)), pipeline.text())
            units = Marks("".join(mark for mark in ALL if unit_book(pipeline, mark) is not None))
            self.assertTrue(units <= marks)
            self.assertIs(units == marks, is_free(pipeline), pipeline.text())
            for mark in "ad":
                # The number of the rows of the mark is alike to 0 if it does not come.
                self.assertEqual(parting(Report(pipeline, "count", Marks(mark)), Report.read("count -")), coming_book(pipeline, mark))
            bound = list(marks - units)
            if bound:
                self.assert_raises(NotFree, (bound[0],), parting_sheets, pipeline, shared("a", "a"), shared("a", "ab"))
            else:
                parting_sheets(pipeline, shared("a", "a"), shared("a", "ab"))

    def test_answers_take_few_calls(self):
        one, other = shared("a", "ab"), shared("b", "abc")
        for text, marks, free in [
            ("against ade e\nkeep over: in cf, in def\ntimes 1\nrun", "bcdef", True),
            ("against abcf a\nkeep over: full, in bcf\nagainst abde f", "abcdef", False), ("fill down halt aef\nkeep last: full, in bcd", "abcdef", True),
            ("keep over: in ab\nkeep hold: in ac\nkeep first: full, in b\nrun", "abcdef", True),
            ("fill up rows 3 halt bc\nfill down halt de\nagainst ab c\nfill drop", "abcdef", False), ("", "abcdef", True),
        ]:
            pipeline = Pipeline.read(text)
            self.assertEqual((marks, free), (coming(pipeline).text(), is_free(pipeline)), text)
            for call in (coming, is_free):
                self.assertLess(calls_in(call, pipeline), 6000, text)
            for call in (coming_book, unit_book):
                self.assertLess(max(calls_in(call, pipeline, mark) for mark in ALL), 12000, text)
            self.assertLess(calls_in(parting_sheets, pipeline, one, other), 16000, text)

    def test_told_cases(self):
        for text, marks, units in [
            ("", "abcdef", "abcdef"), ("sift ab", "ab", "ab"), ("sift -", "-", "-"), ("rename ab c", "cdef", "cdef"), ("rename - c", "abcdef", "abcdef"),
            ("against a b", "abcdef", "bcdef"), ("against a a", "abcdef", "bcdef"), ("against a b\nsift a", "a", "a"), ("total d", "d", "d"),
            ("against abcdef f", "abcdef", "-"), ("against abcdef f\nkeep last: -", "f", "f"), ("against abcdef f\nkeep over: -", "abcdef", "abcdef"),
            ("fill drop\nsift bc\nrun", "bc", "bc"), ("sift a\nagainst a b\nagainst b c", "abc", "-"), ("against a b\nsift bcdef", "bcdef", "bcdef"),
            ("against a b\nagainst a b\nsift b", "b", "b"), ("sift a\nagainst a b\nagainst a b\nsift b", "b", "-"),
            ("sift a\nrename a b\nsift a", "-", "-"), ("keep over: in a\nsift a", "a", "a"), ("sift ab\nkeep over: in a\nagainst a c\nagainst b c", "abc", "-"),
            ("sift ab\nagainst a b\nkeep over: in b", "b", "b"),
        ]:
            pipeline = Pipeline.read(text) if text else Pipeline()
            self.assertEqual(marks, coming(pipeline).text(), text)
            self.assertEqual(units, "".join(mark for mark in ALL if unit_book(pipeline, mark) is not None) or "-", text)
            self.assertIs(marks == units, is_free(pipeline), text)

    def test_numbers_of_rows(self):
        for text, mark, many in [
            ("", "f", 1), ("fill drop", "a", 1), ("fill up rows 2\nfill drop", "a", 1), ("keep over: -\nfill down rows 2\nsift b", "b", 1),
            ("against ab c\nsift c", "c", 1), ("sift a\nagainst a b\nkeep last: -", "b", 1),
        ]:
            pipeline = Pipeline.read(text) if text else Pipeline()
            self.assertEqual((many, many), (len(coming_book(pipeline, mark)), len(unit_book(pipeline, mark))), text)
        # Of a day with b and a, the row b is kept; what stands against it is left out with the others.
        pipeline = Pipeline.read("against b c\nkeep over: in c, in b\nfill drop\nsift c")
        self.assertEqual(1, len(unit_book(pipeline, "c")))

    def test_errors(self):
        bent, large = Pipeline.read("run\nfill near_above\nkeep none: -"), Pipeline.read("fill up rows 3\nfill up rows 1")
        for call in (coming_book, unit_book):
            for mark in ("", "g", "ab", "A", "-"):
                self.assert_raises(NoMark, (mark,), call, bent, mark)
                self.assert_raises(NoMark, (mark,), call, large, mark)
            self.assert_raises(NotStraight, (1,), call, bent, "a")
            self.assert_raises(TooLarge, (12 ** 4,), call, large, "a")
        for call in (coming, is_free):
            self.assert_raises(NotStraight, (1,), call, bent)
            self.assert_raises(TooLarge, (12 ** 4,), call, large)

    def test_efforts_of_4000(self):
        for text in (
            "fill up rows 3\nfill down", "fill up rows 2 halt a\nkeep over: in bc\nfill down", "keep over: in ab\nkeep hold: in ac\nkeep first: full, in b\nrun",
            "keep over: in ab\nfill up rows 2 halt c\nchange\nagainst a b", "fill up rows 3 halt bc\nfill down halt de\nagainst ab c\nfill drop",
        ):
            pipeline = Pipeline.read(text)
            self.assertTrue(2000 < pipeline_effort(pipeline) <= 4000)
            for mark in coming(pipeline):
                self.assertIn(mark, [row[1] for row in pipeline(coming_book(pipeline, mark))])
                book = unit_book(pipeline, mark)
                if book is not None:
                    self.assertEqual([mark], [row[1] for row in pipeline(book)])


class PartingSheetsTest(BureauCase):
    def check(self, pipeline, one, other):
        books = parting_sheets(pipeline, one, other)
        marks = coming(pipeline)
        table = parting_table(one & marks, other & marks)
        if table is None:
            self.assertIsNone(books)
            return True
        self.assertIs(list, type(books))
        self.assertTrue(all(type(book) is Book and has_form(book) for book in books))
        found = Table.of(*[pipeline(book) for book in books])
        self.assertEqual(table.total, found.total)
        self.assertNotEqual(one(found), other(found))
        return False

    def test_random_formulas(self):
        source = random.Random(1192)
        pipelines = [pipeline for pipeline in random_pipelines(1193, 60) if is_free(pipeline)]
        found = []
        for pipeline in pipelines:
            one, other = random_told(source, 3).formula, random_told(source, 3).formula
            found.append(self.check(pipeline, one, other))
            self.assertTrue(self.check(pipeline, one, one))
        self.assertTrue(True in found and False in found)

    def test_small_lists_of_books(self):
        pipeline = Pipeline.read("sift ab\nrename b c")
        one, other = shared("a", "ac"), shared("a", "abc")
        self.assertIsNone(parting_sheets(pipeline, one, other))
        one, other = shared("a", "ac"), shared("ac", "ac")
        books = parting_sheets(pipeline, one, other)
        self.assertEqual([[(0, "b", None)]], [[(day, mark, None) for day, mark, _ in book] for book in books])
        one, other = shared("a", "ac"), shared("a", "ac") & Marks("a")
        rows = [list(pipeline(book)) for book in parting_sheets(pipeline, one, other)]
        self.assertEqual(["a", "c"], sorted(mark for some in rows for _, mark, _ in some))
        # No list of fewer books with one row each parts them.
        for table in product(range(2), repeat=2):
            counts = Table(a=table[0], c=table[1])
            self.assertIs(table == (1, 1), one(counts) != other(counts))

    def test_pipelines_of_which_nothing_comes(self):
        self.assertIsNone(parting_sheets(Pipeline.read("sift -"), shared("a", "a"), shared("b", "c")))
        self.assertIsNone(parting_sheets(Pipeline.read("sift b"), shared("a", "b"), Formula.zero()))
        self.assertEqual(1, len(parting_sheets(Pipeline(), shared("a", "a"), Formula.zero())))

    def test_errors_in_their_order(self):
        large = Formula.share(Marks("a"), Marks("ab"))
        for _ in range(6):
            large = large + shared("b", "abc")
        self.assertEqual(7, large.size)
        self.assert_raises(NotStraight, (2,), parting_sheets, Pipeline.read("run\nagainst a b\nfill up rows 4\nkeep none: -"), large, large)
        heavy = Pipeline.read("fill up rows 3\nkeep over: in a\nagainst a b")
        self.assert_raises(TooLarge, (14,), parting_sheets, heavy, large, large)
        self.assert_raises(TooLarge, (12 ** 3 * 13,), parting_sheets, heavy, shared("a", "a"), shared("a", "a"))
        for text, mark in [("against a b", "a"), ("against abcdef c", "a"), ("sift bd\nagainst bd f", "b"), ("against cf a", "c"), ("sift a\nagainst a b\nagainst a b\nsift b", "b")]:
            self.assert_raises(NotFree, (mark,), parting_sheets, Pipeline.read(text), shared("a", "a"), shared("a", "a"))
            self.assert_raises(TooLarge, (13,), parting_sheets, Pipeline.read(text), shared("a", "b").mean(*[Marks("ab")] * 6), large)

    def test_sizes_of_12(self):
        one = shared("a", "ab").mean(*[Marks(letters) for letters in ("ab", "abc", "abd", "abe", "bc", "bcd")])
        other = shared("a", "ab").mean(*[Marks(letters) for letters in ("bcd", "ab", "abc", "abd", "abe", "bc")])
        self.assertTrue(same_formula(one, other))
        self.assertTrue(self.check(Pipeline.read("run\nfill drop"), one, other))
        self.assertFalse(self.check(Pipeline.read("keep last: full"), one, shared("a", "abc").mean(*[Marks("abc")] * 6)))


if __name__ == "__main__":
    unittest.main()
