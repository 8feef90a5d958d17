import operator
import re
import unittest
from fractions import Fraction
from math import gcd

from support import BureauCase

from pagebureau.base.errors import BadFrac, ZeroBottom
from pagebureau.base.fracs import Frac
from pagebureau.base.marks import Marks

LONG = 10 ** 60 - 1
VALUES = [Fraction(top, bottom) for top in range(-7, 8) for bottom in (1, 2, 3, 4, 6)]
VALUES += [Fraction(10 ** 30 + 1, 7), Fraction(-10 ** 30, 10 ** 20 + 1), Fraction(LONG, LONG - 1)]
WHOLE = [-10 ** 50, -3, -1, 0, 1, 2, 7, 10 ** 50]
TEXT = re.compile(r"(-?(?:0|[1-9][0-9]{0,59}))(?:/([1-9][0-9]{0,59}))?")


def frac_of(value):
    return Frac(value.numerator, value.denominator)


def is_frac_text(text):
    match = TEXT.fullmatch(text)
    if match is None or match[1] == "-0" or match[2] == "1":
        return False
    return match[2] is None or gcd(int(match[1]), int(match[2])) == 1


class FracCase(BureauCase):
    def assert_frac(self, value, frac):
        """The thing is a Frac of this value, in lowest terms."""
        self.assertIs(Frac, type(frac))
        self.assertEqual((value.numerator, value.denominator), (frac.top, frac.bottom))


class MakingTest(FracCase):
    def test_lowest_terms(self):
        for top in range(-12, 13):
            for bottom in range(-12, 13):
                if bottom:
                    self.assert_frac(Fraction(top, bottom), Frac(top, bottom))

    def test_parts_that_are_not_given(self):
        self.assert_frac(Fraction(0), Frac())
        self.assert_frac(Fraction(-5), Frac(-5))
        self.assert_frac(Fraction(0), Frac(0, -9))

    def test_a_bottom_of_0(self):
        for top in (0, 1, -1, LONG):
            self.assert_raises(ZeroBottom, (), Frac, top, 0)

    def test_long_parts(self):
        self.assert_frac(Fraction(-10 ** 100, 3), Frac(10 ** 5000, -3 * 10 ** 4900))


class OperatorsTest(FracCase):
    SIGNS = (operator.add, operator.sub, operator.mul)
    ORDERS = (operator.lt, operator.le, operator.gt, operator.ge, operator.eq, operator.ne)

    def test_two_fracs(self):
        for one in VALUES:
            for two in VALUES:
                a, b = frac_of(one), frac_of(two)
                for sign in self.SIGNS:
                    self.assert_frac(sign(one, two), sign(a, b))
                for order in self.ORDERS:
                    self.assertIs(order(one, two), order(a, b))
                self.assertEqual((one.numerator, two.denominator), (a.top, b.bottom))

    def test_a_frac_and_an_integer_on_either_side(self):
        for one in VALUES:
            for number in WHOLE:
                frac = frac_of(one)
                for sign in self.SIGNS:
                    self.assert_frac(sign(one, number), sign(frac, number))
                    self.assert_frac(sign(Fraction(number), one), sign(number, frac))
                for order in self.ORDERS:
                    self.assertIs(order(one, number), order(frac, number))
                    self.assertIs(order(number, one), order(number, frac))

    def test_minus_and_abs(self):
        for one in VALUES:
            self.assert_frac(-one, -frac_of(one))
            self.assert_frac(abs(one), abs(frac_of(one)))

    def test_over(self):
        for one in VALUES:
            for two in VALUES + WHOLE:
                other = two if isinstance(two, int) else frac_of(two)
                if two == 0:
                    self.assert_raises(ZeroBottom, (), frac_of(one).over, other)
                else:
                    self.assert_frac(Fraction(one) / two, frac_of(one).over(other))

    def test_added(self):
        self.assert_frac(Fraction(0), Frac.added([]))
        self.assert_frac(Fraction(0), Frac.added(()))
        self.assert_frac(Fraction(5), Frac.added([5]))
        self.assert_frac(Fraction(5), Frac.added((2, 3)))
        self.assert_frac(Fraction(1), Frac.added([Frac(1, 2), 0, Frac(1, 3), Frac(1, 6)]))
        numbers = [frac_of(value) for value in VALUES] + WHOLE
        copy = list(numbers)
        self.assert_frac(sum(VALUES) + sum(WHOLE), Frac.added(numbers))
        self.assertEqual(copy, numbers)

    def test_many_long_ones_are_added(self):
        numbers = [Frac(1, LONG - k) for k in range(200)]
        self.assert_frac(sum([Fraction(1, LONG - k) for k in range(200)]), Frac.added(numbers))

    def test_beside_what_is_no_number(self):
        others = (True, False, None, "1", "0", 1.0, 0.0, [1], (1, 1), Fraction(1), Marks("a"), Marks())
        for frac in (Frac(1), Frac(0), Frac(1, 2)):
            self.assert_unequal_to_others(frac, others[:-3] + others[-2:])
            self.assertIs(False, Frac.__eq__(frac, Fraction(1)))

    def test_true_and_false_are_no_integers(self):
        for other in (True, False, None, "1"):
            for sign in self.SIGNS + self.ORDERS[:4]:
                with self.subTest(other=other, sign=sign):
                    with self.assertRaises(TypeError):
                        sign(Frac(1), other)
                    with self.assertRaises(TypeError):
                        sign(other, Frac(1))


class TextTest(FracCase):
    def test_texts_are_read_back(self):
        for value in VALUES:
            self.assertEqual(str(value), frac_of(value).text())
            self.assert_frac(value, Frac.read(str(value)))

    def test_sixty_and_sixty_one_digits(self):
        for sign in (1, -1):
            for top, bottom in ((LONG, 1), (LONG, LONG - 1), (1, LONG), (10 ** 59, 10 ** 59 + 1)):
                frac = Frac(sign * top, bottom)
                self.assertEqual(frac, Frac.read(frac.text()))
            for top, bottom in ((LONG + 1, 1), (LONG + 1, LONG), (1, LONG + 1), (10 ** 61 + 1, 10 ** 61)):
                text = Frac(sign * top, bottom).text()
                self.assert_raises(BadFrac, (text,), Frac.read, text)

    def test_longer_texts_than_python_writes(self):
        self.assertEqual("1" + "0" * 5000, Frac(10 ** 5000).text())
        self.assertEqual("-" + "9" * 5000 + "/1" + "0" * 5999 + "7", Frac(1 - 10 ** 5000, 10 ** 6000 + 7).text())
        text = "9" * 5000
        self.assert_raises(BadFrac, (text,), Frac.read, text)

    def test_texts_of_no_frac(self):
        texts = [
            "", " ", "-", "/", "+1", "+0", "-0", "--1", "- 1", " 1", "1 ", "01", "-01", "00", "1/", "/1", "/2",
            "1/1", "2/1", "0/1", "0/2", "-0/2", "1/0", "0/0", "-1/0", "1/00", "1/02", "2/4", "-6/3", "3/-2",
            "-3/-2", "3/+2", "1/2/3", "1//2", "1 /2", "1/ 2", "1/2 ", "1/2\n", "\n1", "1\n", "1.0", "1e2", "0x1",
            "1_0", "1,0", "a", "1a", "None", "True", "--", "1-2", "-/2", "1/-", "10/5", "1/2-",
        ]
        for text in texts:
            with self.subTest(text=text):
                self.assertFalse(is_frac_text(text))
                self.assert_raises(BadFrac, (text,), Frac.read, text)

    def test_a_character_that_is_changed_left_out_or_put_in(self):
        for text in ("-12/35", "100/7", "0", "-40", "9/10"):
            for at in range(len(text) + 1):
                texts = [text[:at] + text[at + 1:]]
                for sign in "0123456789-+/ \na":
                    texts += [text[:at] + sign + text[at:], text[:at] + sign + text[at + 1:]]
                for other in texts:
                    if is_frac_text(other):
                        self.assertEqual(other, Frac.read(other).text())
                    else:
                        self.assert_raises(BadFrac, (other,), Frac.read, other)


if __name__ == "__main__":
    unittest.main()
