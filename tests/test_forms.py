import random
import unittest
from time import process_time

from shares_search import (
    ALL, SETS, exact, random_marks, random_told, share, shared, small_tables, table_of, value_of_form,
)
from support import BureauCase

from pagebureau.base.fracs import Frac
from pagebureau.base.marks import Marks
from pagebureau.shares.formulas import Formula
from pagebureau.shares.forms import form


class FormTest(BureauCase):
    def assert_formed(self, found, marks):
        """The parts of a form are as point 37 tells."""
        self.assertIs(tuple, type(found))
        constant, rests = found
        self.assertIs(Frac, type(constant))
        self.assertIs(list, type(rests))
        wholes = [whole for whole, _ in rests]
        self.assertEqual(sorted(set(wholes)), wholes)
        for rest in rests:
            self.assertIs(tuple, type(rest))
            whole, coefficients = rest
            self.assertIs(list, type(coefficients))
            self.assertTrue(coefficients)
            self.assertEqual(Marks(whole).text(), whole)
            self.assertTrue(Marks(whole) <= marks and whole != "")
            over = [mark for mark, _ in coefficients]
            self.assertEqual(sorted(set(over)), over)
            self.assertNotIn(whole[0], over)
            for pair in coefficients:
                self.assertIs(tuple, type(pair))
                self.assertIn(pair[0], marks)
                self.assertIs(Frac, type(pair[1]))
                self.assertNotEqual(0, pair[1])

    def test_some_forms(self):
        for formula, marks, told in [
            (Formula.zero(), "abc", (0, [])), (shared("a", "ab"), "", (0, [])), (shared("a", "ab"), "a", (1, [])),
            (shared("a", "ab"), "b", (0, [])), (shared("a", "ab"), "c", (0, [])), (shared("ab", "ab"), "abc", (1, [])),
            (shared("b", "ab"), "ab", (0, [("ab", [("b", 1)])])), (shared("a", "ab"), "ab", (1, [("ab", [("b", -1)])])),
            (shared("a", "ab"), "abcdef", (1, [("ab", [("b", -1)])])), (shared("a", "b"), "ab", (0, [("b", [("a", 1)])])),
            (shared("ac", "b"), "abc", (0, [("b", [("a", 1), ("c", 1)])])), (shared("abc", "ab"), "abc", (1, [("ab", [("c", 1)])])),
            (shared("a", "bc") - 2 * shared("a", "b"), "abc", (0, [("b", [("a", -2)]), ("bc", [("a", 1)])])),
            (shared("a", "abc") + shared("b", "abc") + shared("c", "abc"), "abc", (1, [])),
            (shared("b", "ab").mean(Marks("ab"), Marks("c")), "abc", (0, [("ab", [("b", Frac(1, 2))])])),
            (shared("b", "ab").mean(Marks("ab"), Marks("c")), "ab", (0, [("ab", [("b", 1)])])),
        ]:
            self.assertEqual(told, form(formula, Marks(marks)))
            self.assert_formed(form(formula, Marks(marks)), Marks(marks))

    def test_wholes_ascend_as_strings(self):
        formula = shared("f", "b") + shared("f", "abc") + shared("f", "ab") + shared("f", "ac") + shared("f", "a")
        wholes = [whole for whole, _ in form(formula, Marks(ALL))[1]]
        self.assertEqual(["a", "ab", "abc", "ac", "b"], wholes)

    def test_the_value_of_random_formulas(self):
        source = random.Random(951)
        for _ in range(200):
            told = random_told(source, 12)
            for marks in source.sample(SETS, 12) + [Marks(), Marks(ALL)]:
                found = form(told.formula, marks)
                self.assert_formed(found, marks)
                for _ in range(2):
                    table = table_of([source.choice((1, 1, 2, 3, 7, 10 ** 18)) if mark in marks else 0 for mark in ALL])
                    self.assertEqual(told.on(table), value_of_form(found, table))

    def test_each_set_of_marks_and_all_small_tables(self):
        source = random.Random(952)
        tables = small_tables(6)
        for _ in range(4):
            told = random_told(source, 6)
            forms = {marks.letters: form(told.formula, marks) for marks in SETS}
            self.assertEqual((0, []), forms[""])
            for table in tables:
                self.assertEqual(exact(told.formula(table)), value_of_form(forms[table.present.letters], table))

    def test_formulas_that_are_the_same_have_equal_forms(self):
        a, b = shared("a", "abc"), shared("b", "abc")
        for first, second in [
            (a + b, shared("ab", "abc")), (a - a, Formula.zero()), (0 * a, Formula.zero()), ((a + a) // 2, a), (-(-a), a),
            (a & Marks("ab"), shared("a", "ab")), (a.mean(Marks(ALL)), a), (a.mean(Marks("a")), shared("a", "a")),
            (shared("ad", "ab") & Marks("abc"), shared("a", "ab")), (shared("c", ""), Formula.zero()), (a + b, b + a),
            (shared("abc", "abc") - a - b, shared("c", "abc")), (a.mean(Marks("ab"), Marks("ab")), shared("a", "ab")),
        ]:
            for marks in SETS:
                self.assertEqual(form(first, marks), form(second, marks))

    def test_formulas_that_differ_have_other_forms(self):
        for first, second in [
            (shared("a", "ab"), shared("a", "abc")), (shared("a", "a"), shared("b", "b")), (shared("a", "b"), shared("b", "a")),
            (shared("a", "ab"), 2 * shared("a", "ab")), (shared("ab", "ab"), shared("abc", "abc")),
            (shared("a", ALL), shared("a", ALL).mean(Marks("abc"), Marks("def"))),
        ]:
            self.assertTrue(any(form(first, marks) != form(second, marks) for marks in SETS))

    def test_a_form_that_its_reader_changes(self):
        formula = shared("b", "ab") + shared("c", "ab")
        _, rests = form(formula, Marks("abc"))
        rests[0][1].clear()
        rests.append(("x", []))
        self.assertEqual((0, [("ab", [("b", 1), ("c", 1)])]), form(formula, Marks("abc")))
        self.assertEqual(1, exact(formula(table_of([1, 1, 1, 0, 0, 0]))))

    def test_formulas_of_size_12(self):
        source = random.Random(953)
        start = process_time()
        for _ in range(30):
            formula = Formula.zero()
            for _ in range(12):
                formula = formula + share(random_marks(source), random_marks(source)).formula * source.randint(-10 ** 20, 10 ** 20)
            formula = formula // 7
            for marks in SETS:
                self.assert_formed(form(formula, marks), marks)
        self.assertLess(process_time() - start, 30)


if __name__ == "__main__":
    unittest.main()
