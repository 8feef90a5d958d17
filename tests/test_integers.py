import unittest
from itertools import product

from pagebureau.base.integers import is_digits, is_plain_integer, misplaced, read_integer, written


class IntegersTest(unittest.TestCase):
    def test_what_is_an_integer(self):
        for thing in (0, -1, 10 ** 5000):
            self.assertIs(True, is_plain_integer(thing))
        for thing in (True, False, None, "1", 1.0, [], (1,)):
            self.assertIs(False, is_plain_integer(thing))

    def test_what_is_digits(self):
        for text in ("0", "007", "1234567890"):
            self.assertIs(True, is_digits(text))
        for text in ("", " ", "-1", "+1", "1 ", "1\n", "1_0", "a", "\u00b2", "\u0663"):
            self.assertIs(False, is_digits(text))

    def test_integers_are_written_whatever_their_length(self):
        for number in (0, 7, 10 ** 59, 10 ** 60 - 1, 10 ** 60, 10 ** 60 + 1, 10 ** 120 + 10 ** 60, 10 ** 600 - 1):
            self.assertEqual(str(number), written(number))
            self.assertEqual(str(-number), written(-number))
        self.assertEqual("-1" + "0" * 9999, written(-10 ** 9999))

    def test_integers_are_read_back(self):
        for number in (0, 7, -7, 10, 99, -99):
            self.assertEqual(number, read_integer(str(number), 2))
        self.assertEqual(10 ** 60 - 1, read_integer("9" * 60, 60))
        for text in ("", "-", "+1", "-0", "00", "01", "-01", "1 ", " 1", "--1", "1-", "1\n", "1_0", "x"):
            self.assertIsNone(read_integer(text, 9))
        self.assertIsNone(read_integer("100", 2))
        self.assertIsNone(read_integer("-100", 2))
        self.assertIsNone(read_integer("9" * 5000, 60))

    def test_lists_that_number_things(self):
        for count in range(4):
            for length in range(5):
                for numbers in product((-1, 0, 1, 2, 3), repeat=length):
                    wrong = [at for at, k in enumerate(numbers) if not 0 <= k < count or k in numbers[:at]]
                    missing = [length] if length < count else []
                    self.assertEqual((wrong + missing + [None])[0], misplaced(list(numbers), count))
        for thing in (True, False, None, "1", 1.0, [1], (1,)):
            self.assertEqual(1, misplaced([0, thing], 2))


if __name__ == "__main__":
    unittest.main()
