import unittest
from itertools import combinations

from support import BureauCase

from pagebureau.base.errors import BadStep, BadText
from pagebureau.base.fracs import Frac
from pagebureau.base.marks import Marks
from pagebureau.filling.limits import fill_step, fill_text, is_fill_step, read_fill

WAYS = ("down", "up", "near_above", "near_below")
SETS = ["".join(marks) or "-" for count in range(7) for marks in combinations("abcdef", count)]
DROP = ("drop", None, "-")
STEPS = [(way, rows, halt) for way in WAYS for rows in (None, 1, 2, 3, 4, 5, 6) for halt in SETS] + [DROP]
BAD_WAYS = ("", "Down", "down ", "near", "nearabove", "near above", "drops", "halt", "rows", None, True, 0, ("down",), ["up"])
BAD_ROWS = (0, 7, -1, 8, 10 ** 20, True, False, "1", "None", "", 1.0, Frac(1), [1], (1,))
BAD_HALTS = ("", "ba", "aa", "g", "ag", "A", " a", "a ", "a b", "--", "-a", "a-", "a,b", "\n", None, True, 0, Marks("a"), ["a"], ("a",))


def expected_text(way, rows, halt):
    words = [way]
    if rows is not None:
        words += ["rows", str(rows)]
    if halt != "-":
        words += ["halt", halt]
    return " ".join(words)


class FillStepTest(BureauCase):
    def test_all_fill_steps(self):
        self.assertEqual(1793, len(STEPS))
        for way, rows, halt in STEPS:
            step = fill_step(way, rows=rows, halt=halt)
            self.assertIs(tuple, type(step))
            self.assertEqual((way, rows, halt), step)

    def test_what_is_not_given(self):
        for way in (*WAYS, "drop"):
            self.assertEqual((way, None, "-"), fill_step(way))
        self.assertEqual(("up", 6, "-"), fill_step("up", rows=6))
        self.assertEqual(("up", None, "abcdef"), fill_step("up", halt="abcdef"))

    def test_options_are_passed_by_name(self):
        with self.assertRaises(TypeError):
            fill_step("down", 1)

    def test_ways_that_there_are_not(self):
        for way in BAD_WAYS:
            self.assert_raises(BadStep, (0,), fill_step, way)
            self.assert_raises(BadStep, (0,), fill_step, way, rows=1, halt="a")

    def test_numbers_of_rows_out_of_range(self):
        for way in WAYS:
            for rows in BAD_ROWS:
                self.assert_raises(BadStep, (0,), fill_step, way, rows=rows)
                self.assert_raises(BadStep, (0,), fill_step, way, rows=rows, halt="ab")

    def test_halts_that_are_not_texts_of_sets(self):
        for way in WAYS:
            for halt in BAD_HALTS:
                self.assert_raises(BadStep, (0,), fill_step, way, halt=halt)
                self.assert_raises(BadStep, (0,), fill_step, way, rows=3, halt=halt)

    def test_a_drop_has_nothing_more(self):
        for rows in (1, 6, *BAD_ROWS):
            self.assert_raises(BadStep, (0,), fill_step, "drop", rows=rows)
        for halt in ("a", "abcdef", *BAD_HALTS):
            self.assert_raises(BadStep, (0,), fill_step, "drop", halt=halt)
        self.assert_raises(BadStep, (0,), fill_step, "drop", rows=1, halt="a")

    def test_which_things_are_fill_steps(self):
        for step in STEPS:
            self.assertIs(True, is_fill_step(step))
            self.assertIs(False, is_fill_step(list(step)))
        for thing in ((), ("down",), ("down", None), ("down", None, "-", "-"), None, "down", 0, True, Marks(), ["down"]):
            self.assertIs(False, is_fill_step(thing))
        for rows in BAD_ROWS:
            self.assertIs(False, is_fill_step(("down", rows, "-")))
            self.assertIs(False, is_fill_step(("drop", rows, "-")))
        for halt in BAD_HALTS:
            self.assertIs(False, is_fill_step(("down", None, halt)))
        for way in BAD_WAYS:
            self.assertIs(False, is_fill_step((way, None, "-")))


class TextTest(BureauCase):
    def test_the_texts_of_all_fill_steps(self):
        for step in STEPS:
            self.assertEqual(expected_text(*step), fill_text(step))
            self.assertEqual(step, read_fill(fill_text(step)))

    def test_some_texts(self):
        self.assertEqual("near_above rows 1", fill_text(("near_above", 1, "-")))
        self.assertEqual("down halt b", fill_text(("down", None, "b")))
        self.assertEqual("up rows 6 halt abcdef", fill_text(("up", 6, "abcdef")))
        self.assertEqual("drop", fill_text(DROP))

    def test_texts_that_no_fill_step_has(self):
        for text in (
            "", " ", "\n", "Down", "near", "fill down", "down ", " down", "down\n", "down rows", "down rows ", "down rows 0",
            "down rows 7", "down rows 01", "down rows 10", "down rows -1", "down rows +1", "down rows 1 ", "down rows None",
            "down rows x", "down rows rows", "down  rows 1", "down rows  1", "down rows 1 rows 1", "down rows 1 2", "down halt",
            "down halt ", "down halt -", "down halt ba", "down halt aa", "down halt g", "down halt a b", "down halt a ",
            "down halt halt", "down halt a halt a", "down halt a rows 1", "down rows 1 halt -", "down rows 1 halt", "down a",
            "down 1", "down rows 1 a", "down rows\n1", "drop rows 1", "drop halt a", "drop rows None", "drop halt -", "drop ",
            "rows 1", "halt a", "down, up", "down\nup", "down rows 1 halt a more", "rows", "halt", "rows rows 1", "down rows halt a",
        ):
            with self.subTest(text=text):
                self.assert_raises(BadText, (0,), read_fill, text)

    def test_words_put_together_in_all_ways(self):
        texts = {fill_text(step) for step in STEPS}
        words = ["down", "drop", "rows", "halt", "1", "0", "a", "-", ""]
        good, layer = 0, [""]
        for _ in range(5):
            layer = [f"{text} {word}" if text else word for text in layer for word in words]
            for text in layer:
                if text in texts:
                    good += 1
                    self.assertEqual(text, fill_text(read_fill(text)))
                else:
                    self.assert_raises(BadText, (0,), read_fill, text)
            layer = [text for text in layer if text.startswith("d")]
        self.assertEqual(5, good)


if __name__ == "__main__":
    unittest.main()
