import random
import unittest

from filling_search import left_by_definition, random_rows
from support import BureauCase

from pagebureau.base.errors import BadFactor, BadStep, BadText, NoMark
from pagebureau.base.fracs import Frac
from pagebureau.base.marks import Marks
from pagebureau.base.rows import Book
from pagebureau.filling.limits import fill_step
from pagebureau.flows.steps import Against, Change, Fill, Keep, Rename, Run, Sift, Step, Times, Total
from pagebureau.keeping.keepers import Keeper

ALL = "abcdef"
LONG = 10 ** 15 - 1
NO_MARKS = ("", "-", "g", "A", "ab", " ", "aa", "1")
# Equal days, days side by side and far apart, days with empty rows only, amounts of 15 digits.
BOOK = Book([
    (0, "a", None), (0, "b", None), (1, "a", 5), (1, "b", None), (1, "a", -7), (1, "c", LONG), (2, "f", None), (9, "a", 0), (9, "b", -LONG),
    (9999, "d", None), (9999, "e", 3), (9999, "e", 3),
])
# For each class some steps with their texts.
STEPS = {
    Sift: [(Sift(Marks("ab")), "sift ab"), (Sift(Marks()), "sift -"), (Sift(Marks(ALL)), "sift abcdef")],
    Rename: [(Rename(Marks("cb"), "d"), "rename bc d"), (Rename(Marks(), "a"), "rename - a"), (Rename(Marks("a"), "a"), "rename a a")],
    Keep: [
        (Keep(Keeper.read("over: full")), "keep over: full"), (Keep(Keeper.read("none: in ab, most skip")), "keep none: in ab, most skip"),
        (Keep(Keeper.read("last: -")), "keep last: -"), (Keep(Keeper.read("hold: least stop, in -")), "keep hold: least stop, in -"),
    ],
    Fill: [
        (Fill(("down", None, "-")), "fill down"), (Fill(("up", 3, "ab")), "fill up rows 3 halt ab"), (Fill(("drop", None, "-")), "fill drop"),
        (Fill(("near_above", 6, "-")), "fill near_above rows 6"), (Fill(("near_below", None, ALL)), "fill near_below halt abcdef"),
    ],
    Run: [(Run(), "run")],
    Change: [(Change(), "change")],
    Total: [(Total("a"), "total a"), (Total("f"), "total f")],
    Against: [(Against(Marks("fa"), "b"), "against af b"), (Against(Marks(), "a"), "against - a")],
    Times: [(Times(0), "times 0"), (Times(1000), "times 1000"), (Times(-1000), "times -1000"), (Times(-1), "times -1"), (Times(10), "times 10")],
}


def all_steps():
    return [(kind, step, text) for kind, pairs in STEPS.items() for step, text in pairs]


def rows_of(step, rows):
    return list(step(Book(rows)))


class TextTest(BureauCase):
    def test_texts_and_kinds(self):
        for kind, step, text in all_steps():
            self.assertEqual(text, step.text())
            self.assertEqual(text.split(" ")[0], kind.KIND)
            self.assertEqual(kind.KIND, step.KIND)
        self.assertEqual(
            ["sift", "rename", "keep", "fill", "run", "change", "total", "against", "times"], [kind.KIND for kind in STEPS])

    def test_classes(self):
        for kind in STEPS:
            self.assertEqual((Step,), kind.__bases__)
            for name in ("text", "__call__", "straight", "KIND"):
                self.assertIn(name, vars(kind))

    def test_texts_are_read_back(self):
        for kind, step, text in all_steps():
            found = Step.read(text)
            self.assertIs(kind, type(found))
            self.assertTrue(found == step)
            self.assertEqual(text, found.text())
            self.assertEqual(step(BOOK), found(BOOK))
        for factor in range(-1000, 1001):
            self.assertEqual(factor, Step.read(f"times {factor}").factor)

    def test_fields(self):
        marks, keeper, limits = Marks("ab"), Keeper.read("over: full"), ("up", 2, "a")
        self.assertEqual(marks, Sift(marks).marks)
        self.assertEqual((marks, "c"), (Rename(marks, "c").marks, Rename(marks, "c").mark))
        self.assertEqual(keeper, Keep(keeper).keeper)
        self.assertEqual(limits, Fill(limits).limits)
        self.assertEqual("d", Total("d").mark)
        self.assertEqual((marks, "c"), (Against(marks, "c").marks, Against(marks, "c").mark))
        self.assertEqual(-3, Times(-3).factor)
        read = Step.read("against ab c")
        self.assertEqual((marks, "c"), (read.marks, read.mark))
        self.assertEqual(keeper, Step.read("keep over: full").keeper)
        self.assertEqual(limits, Step.read("fill up rows 2 halt a").limits)

    def test_texts_that_no_step_has(self):
        for text in (
            "", " ", "\n", "-", "stop", "Sift a", "sift", "sift ", "sift  a", "sift ba", "sift aa", "sift g", "sift a b", "sift a ", " sift a",
            "sift a\n", "sift --", "sifta", "rename", "rename a", "rename a ", "rename a -", "rename a bc", "rename a b c", "rename ba c",
            "rename  a b", "rename a  b", "rename a g", "rename b", "keep", "keep ", "keep over", "keep over:", "keep over: ", "keep over:full",
            "keep over:  full", "keep over : full", "keep x: full", "keep first: most skip", "keep last: least stop, full", "keep over: most",
            "keep over: full,in a", "keep over: full, ", "keep over: in ba", "keep  over: full", "keep over: full\n", "keep : full",
            "keep over: " + ", ".join(["full"] * 7), "fill", "fill ", "fill down rows 0", "fill down rows 7", "fill down rows 01", "fill near",
            "fill drop rows 1", "fill drop halt a", "fill down halt -", "fill down rows None", "fill halt a", "fill  down", "fill down ",
            "fill fill down", "fill up halt a rows 1", "run ", "run 1", "run\n", "Run", "runs", "change ", "change 1", "total", "total ",
            "total ab", "total -", "total g", "total a b", "total  a", "total a ", "against", "against a", "against a ", "against a -",
            "against ba c", "against a b c", "against  a b", "against - ", "times", "times ", "times -0", "times +1", "times 01", "times -01",
            "times 00", "times 1001", "times -1001", "times 10000", "times 1" + "0" * 5000, "times 1.0", "times x", "times 1 ", "times  1",
            "times 1 2", "times -", "times 1_0", "times --1", "times None", "times 0x1", "sift a\nrun", "drop", "down", "over: full",
        ):
            with self.subTest(text=text):
                self.assert_raises(BadText, (0,), Step.read, text)

    def test_equality(self):
        told = all_steps()
        for i, (_, one, _) in enumerate(told):
            for j, (_, other, _) in enumerate(told):
                self.assertEqual((i == j, i != j), (one == other, one != other))
        self.assertTrue(Sift(Marks("ba")) == Sift(Marks("ab")))
        self.assertTrue(Run() == Run())
        for _, step, text in told:
            self.assert_unequal_to_others(step, [text, None, 0, [step], (text,), Marks("ab"), Keeper.read("over: full")])
        self.assert_unequal_to_others(Keep(Keeper.read("over: full")), [Keeper.read("over: full"), "keep over: full"])


class MakingTest(BureauCase):
    def test_marks_that_are_none(self):
        for mark in NO_MARKS:
            self.assert_raises(NoMark, (mark,), Rename, Marks("a"), mark)
            self.assert_raises(NoMark, (mark,), Total, mark)
            self.assert_raises(NoMark, (mark,), Against, Marks(), mark)
        for mark in ALL:
            self.assertEqual(mark, Total(mark).mark)

    def test_fill_steps_that_are_none(self):
        for limits in (
            ("down",), ("down", 0, "-"), ("down", 7, "-"), ("down", True, "-"), ("down", None, "ba"), ("drop", 1, "-"), ("drop", None, "a"),
            ["down", None, "-"], "down", None, (), ("fill", None, "-"), ("down", None, "-", "-"),
        ):
            self.assert_raises(BadStep, (0,), Fill, limits)

    def test_factors_out_of_range(self):
        for factor in (1001, -1001, 10 ** 30, -10 ** 30, True, False):
            self.assert_raises(BadFactor, (factor,), Times, factor)
        for factor in (None, "1", Frac(1)):
            self.assert_raises(BadFactor, (factor,), Times, factor)
        for factor in (1000, -1000, 0):
            self.assertEqual(factor, Times(factor).factor)


class StraightTest(BureauCase):
    def test_steps_without_conditions(self):
        for kind in (Sift, Rename, Run, Change, Total, Against, Times):
            for step, _ in STEPS[kind]:
                self.assertIs(True, step.straight)

    def test_keepers(self):
        for text, straight in [
            ("over: full", True), ("hold: -", True), ("first: in a, empty", True), ("last: -", True), ("none: full", False), ("none: -", False),
            ("over: most skip", False), ("hold: full, least stop", False), ("last: full, most stop", False), ("first: empty, most skip", False),
        ]:
            self.assertIs(straight, Keep(Keeper.read(text)).straight, text)

    def test_fill_steps(self):
        for halt in ("-", "a", ALL):
            for rows in (None, 1, 2, 3, 4, 5, 6):
                self.assertIs(True, Fill(fill_step("down", rows=rows, halt=halt)).straight)
                self.assertIs(rows in (1, 2, 3), Fill(fill_step("up", rows=rows, halt=halt)).straight)
                self.assertIs(False, Fill(fill_step("near_above", rows=rows, halt=halt)).straight)
                self.assertIs(False, Fill(fill_step("near_below", rows=rows, halt=halt)).straight)
        self.assertIs(True, Fill(("drop", None, "-")).straight)


class BookTest(BureauCase):
    def test_each_step_leaves_a_new_book(self):
        rows = list(BOOK)
        for _, step, _ in all_steps():
            found = step(BOOK)
            self.assertIs(Book, type(found))
            self.assertIsNot(BOOK, found)
            self.assertEqual(Book(), step(Book()))
        self.assertEqual(rows, list(BOOK))

    def test_sift_and_rename(self):
        rows = [(0, "a", 1), (0, "b", None), (4, "c", 3), (4, "a", None)]
        self.assertEqual([rows[0], rows[2], rows[3]], rows_of(Sift(Marks("ac")), rows))
        self.assertEqual([], rows_of(Sift(Marks("f")), rows))
        self.assertEqual([], rows_of(Sift(Marks()), rows))
        self.assertEqual(rows, rows_of(Sift(Marks(ALL)), rows))
        self.assertEqual([(0, "f", 1), (0, "b", None), (4, "f", 3), (4, "f", None)], rows_of(Rename(Marks("ac"), "f"), rows))
        self.assertEqual([(0, "b", 1), (0, "c", None), (4, "c", 3), (4, "b", None)],
                         rows_of(Rename(Marks("a"), "b"), rows_of(Rename(Marks("b"), "c"), rows)))
        self.assertEqual(rows, rows_of(Rename(Marks(), "f"), rows))

    def test_keep_and_fill(self):
        source = random.Random(1021)
        for text in ("over: full", "hold: in ab, most skip", "none: full, least stop", "first: -", "last: empty, in a"):
            keeper = Keeper.read(text)
            for _ in range(30):
                book = Book(random_rows(source, 10))
                self.assertEqual(keeper(book), Keep(keeper)(book))
        for limits in (("down", None, "-"), ("up", 2, "a"), ("near_below", 1, "-"), ("drop", None, "-")):
            for _ in range(30):
                rows = random_rows(source, 10)
                self.assertEqual(left_by_definition([limits], rows), rows_of(Fill(limits), rows))
        self.assertEqual([row for row in BOOK if row[2] is not None], list(Fill(("drop", None, "-"))(BOOK)))

    def test_run(self):
        rows = [(0, "a", None), (0, "b", 3), (0, "b", None), (1, "a", -5), (7, "c", 2), (7, "c", None)]
        self.assertEqual([None, 3, None, -2, 0, None], [row[2] for row in rows_of(Run(), rows)])
        self.assertEqual([row[:2] for row in rows], [row[:2] for row in rows_of(Run(), rows)])

    def test_change(self):
        rows = [(0, "a", None), (0, "b", 3), (0, "b", None), (1, "a", -5), (7, "c", 2), (7, "c", None)]
        # Each difference is to the amount as it was before the step.
        self.assertEqual([None, 3, None, -8, 7, None], [row[2] for row in rows_of(Change(), rows)])
        self.assertEqual([row[:2] for row in rows], [row[:2] for row in rows_of(Change(), rows)])

    def test_run_and_change_undo_each_other(self):
        source = random.Random(1022)
        for _ in range(100):
            book = Book(random_rows(source, 12, amounts=(None, 0, 1, -7, LONG, -LONG)))
            self.assertEqual(book, Change()(Run()(book)))
            self.assertEqual(book, Run()(Change()(book)))
        self.assertEqual(BOOK, Change()(Run()(BOOK)))

    def test_total(self):
        self.assertEqual([(0, "d", None), (1, "d", LONG - 2), (2, "d", None), (9, "d", -LONG), (9999, "d", 6)], list(Total("d")(BOOK)))
        self.assertEqual([(5, "a", 0)], rows_of(Total("a"), [(5, "b", 4), (5, "c", None), (5, "b", -4)]))
        self.assertEqual([(5, "a", 0), (6, "a", None)], rows_of(Total("a"), [(5, "b", None), (5, "c", 0), (6, "f", None), (6, "f", None)]))

    def test_against(self):
        rows = [(0, "a", 3), (0, "b", 4), (2, "c", None), (2, "a", 0), (3, "a", -LONG)]
        self.assertEqual(
            [(0, "a", 3), (0, "f", -3), (0, "b", 4), (2, "c", None), (2, "f", None), (2, "a", 0), (2, "f", 0), (3, "a", -LONG), (3, "f", LONG)],
            rows_of(Against(Marks("ac"), "f"), rows))
        # The new rows get no rows of their own.
        self.assertEqual([(0, "a", 3), (0, "a", -3)], rows_of(Against(Marks("a"), "a"), rows[:1]))
        self.assertEqual(rows, rows_of(Against(Marks("f"), "a"), rows))

    def test_times(self):
        for factor in (0, 1, -1, 7, 1000, -1000):
            expected = [(day, mark, None if amount is None else factor * amount) for day, mark, amount in BOOK]
            self.assertEqual(expected, list(Times(factor)(BOOK)))

    def test_amounts_of_15_digits_through_eight_steps(self):
        book = Book([(0, "a", LONG), (0, "b", -LONG)])
        for _ in range(8):
            book = Times(-1000)(book)
        self.assertEqual([LONG * 10 ** 24, -LONG * 10 ** 24], [row[2] for row in book])

    def test_rows_that_double_eight_times(self):
        book = Book([(place // 2, "a", place) for place in range(200)])
        for _ in range(8):
            book = Against(Marks("a"), "a")(book)
        self.assertEqual(200 * 256, len(book))
        self.assertEqual([(day, "c", 0) for day in range(100)], list(Total("c")(book)))
        self.assertEqual(book, Change()(Run()(book)))
        self.assertEqual(book, Fill(("near_above", None, "-"))(book))


if __name__ == "__main__":
    unittest.main()
