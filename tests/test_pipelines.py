import random
import unittest

from judge_search import random_book, random_step
from support import BureauCase

from pagebureau.base.errors import BadText, NoStep, TooLarge
from pagebureau.base.marks import Marks
from pagebureau.base.rows import Book
from pagebureau.flows.pipelines import Pipeline
from pagebureau.flows.steps import Run, Sift, Step, Times

TEXTS = ("sift ab", "run", "keep none: most skip", "times -3", "fill near_above", "total f", "against ab c", "change")


def steps_of(*texts):
    return [Step.read(text) for text in texts]


class MakingTest(BureauCase):
    def test_numbers_of_steps(self):
        self.assertEqual(8, Pipeline.MOST)
        for many in range(9):
            pipeline = Pipeline([Run()] * many)
            self.assertEqual(many, len(pipeline))
            self.assertEqual("\n".join(["run"] * many), pipeline.text())
        for many in (9, 10, 30):
            self.assert_raises(TooLarge, (many,), Pipeline, [Run()] * many)
        self.assertEqual([], list(Pipeline()))
        self.assertEqual("", Pipeline().text())
        self.assertEqual(2, len(Pipeline((Run(), Run()))))

    def test_texts_are_read_back(self):
        for many in range(9):
            text = "\n".join(TEXTS[:many])
            pipeline = Pipeline.read(text)
            self.assertIs(Pipeline, type(pipeline))
            self.assertEqual(text, pipeline.text())
            self.assertEqual(many, len(pipeline))
            self.assertEqual(pipeline, Pipeline(steps_of(*TEXTS[:many])))

    def test_texts_that_no_pipeline_has(self):
        for text, at in [
            ("\n", 0), ("run\n", 1), ("\nrun", 0), ("run\n\nrun", 1), ("run\nran\nrin", 1), (" ", 0), ("-", 0), ("run\nsift ba", 1),
            ("\n".join(["run"] * 7 + ["keep over"]), 7), ("count a", 0), ("run\n" * 7, 7),
        ]:
            self.assert_raises(BadText, (at,), Pipeline.read, text)

    def test_the_number_of_lines_comes_first(self):
        for text, many in [
            ("\n".join(["run"] * 9), 9), ("x" + "\n" * 8, 9), ("\n" * 8, 9), ("\n".join(["bad"] * 12), 12), ("run\n" * 8, 9),
        ]:
            self.assert_raises(TooLarge, (many,), Pipeline.read, text)

    def test_the_list_may_be_changed_afterwards(self):
        steps = steps_of(*TEXTS[:3])
        pipeline = Pipeline(steps)
        steps.append(Run())
        steps[0] = Times(0)
        told = list(pipeline)
        told.clear()
        self.assertEqual("\n".join(TEXTS[:3]), pipeline.text())


class ItemTest(BureauCase):
    def test_items(self):
        pipeline = Pipeline(steps_of(*TEXTS))
        for at in range(8):
            self.assertEqual(TEXTS[at], pipeline[at].text())
            self.assertEqual([text for text in TEXTS if text != TEXTS[at]], [step.text() for step in pipeline.without(at)])
        self.assertIsInstance(pipeline[0], Sift)
        for at in (-1, 8, 9, -8):
            self.assert_raises(NoStep, (at,), lambda: pipeline[at])
            self.assert_raises(NoStep, (at,), pipeline.without, at)
        self.assert_raises(NoStep, (0,), lambda: Pipeline()[0])
        self.assert_raises(NoStep, (0,), Pipeline().without, 0)
        self.assertEqual(8, len(pipeline))

    def test_swapped(self):
        pipeline = Pipeline(steps_of(*TEXTS))
        for at in range(7):
            texts = list(TEXTS)
            texts[at], texts[at + 1] = texts[at + 1], texts[at]
            self.assertEqual("\n".join(texts), pipeline.swapped(at).text())
        for at in (-1, 7, 8):
            self.assert_raises(NoStep, (at,), pipeline.swapped, at)
        for short in (Pipeline(), Pipeline([Run()])):
            self.assert_raises(NoStep, (0,), short.swapped, 0)
        self.assertEqual(list(TEXTS), [step.text() for step in pipeline])

    def test_sums(self):
        for first in range(9):
            for second in range(9):
                one, other = Pipeline([Run()] * first), Pipeline([Times(2)] * second)
                if first + second > 8:
                    self.assert_raises(TooLarge, (first + second,), lambda: one + other)
                else:
                    self.assertEqual(["run"] * first + ["times 2"] * second, [step.text() for step in one + other])
                self.assertEqual((first, second), (len(one), len(other)))

    def test_equality(self):
        told = [Pipeline(steps_of(*TEXTS[:many])) for many in range(9)]
        for i, one in enumerate(told):
            for j, other in enumerate(told):
                self.assertEqual((i == j, i != j), (one == other, one != other))
        self.assertTrue(Pipeline([Sift(Marks("ba"))]) == Pipeline.read("sift ab"))
        self.assert_unequal_to_others(Pipeline([Run()]), ["run", None, 0, Run(), [Run()], (Run(),), Book()])
        self.assert_unequal_to_others(Pipeline(), ["", None, 0, [], (), Book()])

    def test_straight(self):
        self.assertIs(True, Pipeline().straight)
        self.assertIs(True, Pipeline(steps_of("run", "fill up rows 3", "keep last: full")).straight)
        for text in ("keep none: -", "fill up", "fill up rows 4", "fill near_below rows 1", "keep over: most skip"):
            for pipeline in ([text], ["run", text], [text, "run"], ["run"] * 7 + [text]):
                self.assertIs(False, Pipeline(steps_of(*pipeline)).straight)


class BookTest(BureauCase):
    def test_along_yields_the_book_after_each_step(self):
        source = random.Random(1101)
        for _ in range(150):
            texts = [random_step(source) for _ in range(source.randint(0, 8))] + ["keep none: most skip"][:source.randint(0, 1)]
            pipeline = Pipeline(steps_of(*texts[:8]))
            book = random_book(source, 10)
            rows = list(book)
            expected, left = [], book
            for step in pipeline:
                left = step(left)
                expected.append(left)
            self.assertEqual(expected, list(pipeline.along(book)))
            self.assertEqual(left, pipeline(book))
            self.assertEqual(rows, list(book))

    def test_the_empty_pipeline(self):
        book = Book([(3, "a", None), (9, "b", 4)])
        self.assertEqual(book, Pipeline()(book))
        self.assertEqual([], list(Pipeline().along(book)))
        self.assertEqual(Book(), Pipeline(steps_of(*TEXTS))(Book()))
        self.assertEqual([Book()] * 8, list(Pipeline(steps_of(*TEXTS)).along(Book())))


if __name__ == "__main__":
    unittest.main()
