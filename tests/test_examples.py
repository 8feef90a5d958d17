"""The examples of the document, word for word."""

import unittest

from pagebureau.base.rows import Book
from pagebureau.base.spans import Span


class ExamplesTest(unittest.TestCase):
    def test_the_text_of_a_book(self):
        self.assertEqual('   1 a               +5\n   1 b                .', Book([(1, "a", 5), (1, "b", None)]).text())

    def test_a_book_that_comes_late(self):
        self.assertEqual(
            [(0, 'c', 1), (1, 'a', 5), (1, 'd', 2), (3, 'a', 7)],
            list(Book([(1, "a", 5), (3, "a", 7)]) | Book([(0, "c", 1), (1, "d", 2)])))

    def test_a_book_that_is_followed(self):
        self.assertEqual(
            [(4, 'a', 1), (5, 'b', 2), (7, 'b', 3)],
            list(Book([(4, "a", 1)]).followed(Book([(7, "b", 2), (9, "b", 3)]))))

    def test_a_span(self):
        span = Span(3)
        first = span.grow((2, 4, 0))
        second = span.grow((1, 2, 0))
        third = span.grow((0, 3, 3))
        self.assertEqual([True, False, True, [(1, 0, -2), (0, 1, 1)]], [first, second, third, list(span)])


if __name__ == "__main__":
    unittest.main()
