import random
import unittest

from judge_search import ALL, random_report, random_step
from support import BureauCase

from pagebureau.base.errors import BadRow, NotStraight, TooLarge
from pagebureau.base.rows import Book
from pagebureau.flows.figures import Report
from pagebureau.flows.pipelines import Pipeline
from pagebureau.judge.alike import alike
from pagebureau.judge.bases import Basis
from pagebureau.judge.letters import effort, grown, letters_of, mark_classes, pipeline_effort

LETTERS = [f"{day}{mark}{amount}" for day in "+=" for mark in ALL for amount in ".01"]


class ClassesTest(BureauCase):
    def test_sets_of_each_place(self):
        for text, classes in [
            ("count -", [ALL]), ("count abcdef", [ALL]), ("sum ab", ["ab", "cdef"]), ("sift ac\nsum ab", ["a", "b", "c", "def"]),
            ("rename f a\ncount -", ["abcde", "f"]), ("rename ab a\ncount ab", ["ab", "cdef"]), ("against b f\ncount -", ["acdef", "b"]),
            ("total c\nrun\nchange\ntimes 4\nfill drop\ncount -", [ALL]), ("keep over: in cd, full, in de\ncount -", ["abf", "c", "d", "e"]),
            ("keep none: most skip, in f\ncount f", ["abcde", "f"]), ("fill up halt bd\ncount d", ["acef", "b", "d"]),
            ("fill near_above rows 1\ncount -", [ALL]), ("fill down\ncount a", ["a", "bcdef"]),
            ("sift abc\nsift ade\nsift bd\ncount -", ["a", "b", "c", "d", "e", "f"]),
        ]:
            self.assertEqual(classes, mark_classes(Report.read(text)), text)

    def test_several_reports(self):
        reports = [Report.read("count af"), Report.read("sift bf\ncount -"), Report.read("count abcdef")]
        self.assertEqual(["af", "bcde"], mark_classes(reports[0]))
        self.assertEqual(["a", "b", "cde", "f"], mark_classes(*reports))
        self.assertEqual([ALL], mark_classes())
        self.assertEqual(mark_classes(*reports), mark_classes(*reports[::-1]))

    def test_no_set_tells_marks_of_a_class_apart(self):
        source = random.Random(1141)
        for _ in range(100):
            report = random_report(source)
            classes = mark_classes(report)
            self.assertEqual(ALL, "".join(sorted("".join(classes))))
            self.assertEqual(sorted(classes), classes)
            self.assertTrue(all("".join(sorted(letters)) == letters for letters in classes))

    def test_letters(self):
        self.assertEqual(["+a.", "+a0", "+a1", "=a.", "=a0", "=a1"], letters_of(Report.read("count -")))
        self.assertEqual(
            ["+a.", "+a0", "+a1", "+d.", "+d0", "+d1", "=a.", "=a0", "=a1", "=d.", "=d0", "=d1"], letters_of(Report.read("count def")))
        self.assertEqual(LETTERS, letters_of(Report.read("sift abc\nsift ade\nsift bd\ncount -")))
        for text in ("fill up\ncount b", "keep none: -\ncount ac"):
            letters = letters_of(Report.read(text))
            self.assertEqual(sorted(letters), letters)
            self.assertEqual(12, len(letters))
        letters_of().clear()
        self.assertEqual(6, len(letters_of()))


class GrownTest(BureauCase):
    def test_letters(self):
        book = Book([(4, "a", 7)])
        for letter in LETTERS:
            amount = {".": None, "0": 0, "1": 1}[letter[2]]
            self.assertEqual([(0, letter[1], amount)], list(grown(Book(), letter)))
            day = 4 if letter[0] == "=" else 5
            self.assertEqual([(4, "a", 7), (day, letter[1], amount)], list(grown(book, letter)))
        self.assertEqual([(4, "a", 7)], list(book))

    def test_the_last_day(self):
        book = Book([(9998, "a", 1)])
        last = grown(book, "+b.")
        self.assertEqual([(9998, "a", 1), (9999, "b", None)], list(last))
        self.assertEqual(3, len(grown(last, "=b1")))
        self.assert_raises(BadRow, (2,), grown, last, "+b1")
        self.assert_raises(BadRow, (3,), grown, grown(last, "=b1"), "+f.")


def effort_by_definition(texts, count):
    product = 1
    for text in texts:
        words = text.split(" ")
        if words[0] == "keep":
            product *= 2 * count + 1
        if words[:2] == ["fill", "down"]:
            product *= int(words[3]) + 2 if "rows" in words else 2
        if words[:2] == ["fill", "up"]:
            product *= (2 * count) ** int(words[3])
        product *= {"change": 2, "total": 3}.get(words[0], 1)
    return product


class EffortTest(BureauCase):
    def test_each_kind_of_step(self):
        for text, many in [
            ("count a", 1), ("sift a\ncount a", 1), ("rename a b\ncount a", 1), ("run\ncount a", 1), ("against a b\ncount a", 1),
            ("times 3\ncount a", 1), ("fill drop\ncount a", 1), ("change\ncount a", 2), ("total a\ncount a", 3), ("fill down\ncount a", 2),
            ("fill down halt a\ncount a", 2), ("fill down rows 1\ncount a", 3), ("fill down rows 6 halt a\ncount a", 8), ("keep over: -\ncount a", 5),
            ("keep last: full\ncount -", 3), ("fill up rows 1\ncount a", 4), ("fill up rows 2\ncount a", 16), ("fill up rows 3\ncount a", 64),
            ("fill up rows 3\ncount -", 8), ("days a", 2), ("change\ndays a", 4),
            ("change\nchange\ntotal a\nkeep over: in b\nfill up rows 1\nfill down rows 2\ncount a", 2 * 2 * 3 * 7 * 6 * 4),
        ]:
            self.assertEqual(many, effort(Report.read(text)), text)

    def test_several_reports(self):
        one, other, days = Report.read("change\ncount a"), Report.read("total b\nfill up rows 1\nsum a"), Report.read("change\ndays a")
        self.assertEqual(2 * 3 * 4, effort(one, other))
        self.assertEqual(2, effort(one, Report.read("change\nsum a")))
        # The classes are counted for all reports together.
        self.assertEqual(2 * 3 * 6, effort(Report.read("change\ncount b"), other))
        self.assertEqual(4, effort(one, days))
        self.assertEqual(8, effort(days, days))
        self.assertEqual(16, effort(days, days, days))
        self.assertEqual(2 * 3 * 4 * 2, effort(one, other, days))
        self.assertEqual(1, effort())

    def test_fill_up(self):
        # Ends of one report for each number of classes, from 1 to 6.
        ends = ("count -", "count a", "sift a\ncount b", "sift a\nsift b\ncount c", "sift a\nsift b\nsift c\ncount d", "sift a\nsift b\nsift c\nsift d\ncount e")
        for rows in (1, 2, 3):
            for at, end in enumerate(ends):
                self.assertEqual((2 * (at + 1)) ** rows, effort(Report.read(f"fill up rows {rows}\n{end}")), (rows, end))
            self.assertEqual(12 ** rows, pipeline_effort(Pipeline.read(f"fill up rows {rows}")))
            self.assertEqual(12 ** rows, pipeline_effort(Pipeline.read(f"run\nfill up rows {rows} halt ab\nsift a")))
            self.assertEqual(12 ** rows * 12 ** 2, pipeline_effort(Pipeline.read(f"fill up rows {rows}\nfill up rows 2")))

    def test_pipelines(self):
        source = random.Random(1142)
        self.assertEqual(1, pipeline_effort(Pipeline()))
        self.assertEqual(13, pipeline_effort(Pipeline.read("keep over: -")))
        self.assertEqual(1728, pipeline_effort(Pipeline.read("fill up rows 3")))
        self.assertEqual(1728 ** 8, pipeline_effort(Pipeline.read("\n".join(["fill up rows 3"] * 8))))
        for _ in range(200):
            texts = [random_step(source) for _ in range(source.randint(0, 8))]
            self.assertEqual(effort_by_definition(texts, 6), pipeline_effort(Pipeline.read("\n".join(texts))))
            report = Report.read("\n".join([*texts, "sum abc"]))
            self.assertEqual(effort_by_definition(texts, len(mark_classes(report))), effort(report))

    def test_steps_that_are_not_straight(self):
        good = Report.read("\n".join(["fill up rows 3"] * 8 + ["count a"]))
        one, other = Report.read("run\nfill up\ncount a"), Report.read("keep none: -\ncount a")
        self.assert_raises(NotStraight, (1,), effort, one)
        self.assert_raises(NotStraight, (0,), effort, other)
        self.assert_raises(NotStraight, (1,), effort, good, one, other)
        self.assert_raises(NotStraight, (0,), effort, good, other, one)
        self.assert_raises(NotStraight, (1,), pipeline_effort, one.pipeline)
        self.assert_raises(NotStraight, (0,), alike, other, good)
        self.assert_raises(NotStraight, (1,), alike, good, one)
        self.assert_raises(NotStraight, (1,), Basis, good, one)

    def test_the_greatest_effort(self):
        # 4000 is 8 * 5 * 5 * 5 * 4, with two classes.
        steps = ["fill down rows 6"] + ["keep over: full"] * 3
        greatest = Report.read("\n".join([*steps, "change", "change", "sum a"]))
        self.assertEqual(4000, effort(greatest))
        self.assertTrue(alike(greatest, greatest))
        self.assertLess(0, len(Basis(greatest)))
        above = Report.read("\n".join(["fill up rows 1"] + ["fill up rows 2"] + ["fill up rows 3", "sum a"]))
        self.assertEqual(4096, effort(above))
        self.assert_raises(TooLarge, (4096,), alike, above, above)
        self.assert_raises(TooLarge, (4096,), Basis, above)
        self.assert_raises(TooLarge, (8000,), alike, greatest, Report.read("change\nsum a"))
        self.assert_raises(TooLarge, (8000,), alike, Report.read("days a"), greatest)


if __name__ == "__main__":
    unittest.main()
