import re
import unittest
from fractions import Fraction

from support import BureauCase

from pagebureau.base.errors import BadRow, BadText, NoRow
from pagebureau.base.fracs import Frac
from pagebureau.base.marks import Marks
from pagebureau.base.rows import Book, is_row, row_text

LONG = 10 ** 40 - 1
GOOD_ROWS = [
    (0, "a", None), (0, "f", 0), (9999, "c", -1), (12, "b", LONG), (12, "b", -LONG), (5, "e", 10 ** 39),
]
BAD_ROWS = [
    (-1, "a", 1), (10000, "a", 1), (10 ** 30, "a", 1), (True, "a", 1), (False, "a", 1),
    (None, "a", 1), ("1", "a", 1), (1.0, "a", 1), (Fraction(1), "a", 1), (Frac(1), "a", 1),
    (1, "g", 1), (1, "A", 1), (1, "", 1), (1, "ab", 1), (1, "-", 1), (1, " ", 1), (1, "\n", 1),
    (1, None, 1), (1, 0, 1), (1, Marks("a"), 1), (1, ["a"], 1), (1, ("a",), 1), (1, b"a", 1),
    (1, "a", LONG + 1), (1, "a", -LONG - 1), (1, "a", True), (1, "a", False), (1, "a", "1"),
    (1, "a", 1.0), (1, "a", Frac(1)), (1, "a", []), (1, "a", ()),
    (), (1,), (1, "a"), (1, "a", 1, 1), ((1, "a", 1),),
    [1, "a", 1], [], None, True, 0, 1, "", "1a1", "abc", b"abc", {}, {1: 2}, set(), 1.5,
    Marks("abc"), Frac(1), Book(), Book([(1, "a", 1)]), [(1, "a", 1)], int, len,
]
# The one way in which the text of a row can be written, with its day and amount told.
DAY = r"(?:   [0-9]|  [1-9][0-9]| [1-9][0-9]{2}|[1-9][0-9]{3})"
AMOUNT = r"(?:\.|\+0|[+-][1-9][0-9]{0,39})"
ROW = re.compile("(" + DAY + ") [a-f] ( *" + AMOUNT + ")")
SIGNS = "abcfg 09156+-.,\nA_/"


def is_row_text(text):
    match = ROW.fullmatch(text)
    return match is not None and (len(match[2]) == 16 or (len(match[2]) > 16 and match[2][0] != " "))


def wrong_line(text):
    """The first line that is not the text of a row, None if there is none."""
    lines = text.split("\n") if text else []
    return next((at for at, line in enumerate(lines) if not is_row_text(line)), None)


def falling_place(text):
    days = [int(line[:4]) for line in text.split("\n")] if text else []
    return next((at for at in range(1, len(days)) if days[at] < days[at - 1]), None)


class RowsTest(BureauCase):
    def test_what_is_a_row(self):
        for row in GOOD_ROWS:
            with self.subTest(row=row):
                self.assertIs(True, is_row(row))
        for thing in BAD_ROWS:
            with self.subTest(thing=thing):
                self.assertIs(False, is_row(thing))

    def test_the_days_and_amounts_at_the_edges(self):
        for day in (-2, -1, 0, 1, 9998, 9999, 10000, 10001):
            self.assertIs(0 <= day <= 9999, is_row((day, "a", 1)))
        for amount in (LONG - 1, LONG, LONG + 1, LONG + 2):
            self.assertIs(amount <= LONG, is_row((1, "a", amount)))
            self.assertIs(amount <= LONG, is_row((1, "a", -amount)))

    def test_the_text_of_a_row(self):
        expected = [
            ((0, "a", 0), "   0 a               +0"),
            ((9999, "f", -7), "9999 f               -7"),
            ((10, "b", None), "  10 b                ."),
            ((123, "c", 10 ** 14), " 123 c +100000000000000"),
            ((123, "c", 10 ** 15 - 1), " 123 c +999999999999999"),
            ((123, "c", 1 - 10 ** 15), " 123 c -999999999999999"),
            ((123, "c", 10 ** 15), " 123 c +1000000000000000"),
            ((1, "d", LONG), "   1 d +" + "9" * 40),
            ((1, "d", -LONG), "   1 d -" + "9" * 40),
        ]
        for row, text in expected:
            with self.subTest(row=row):
                self.assertEqual(text, row_text(row))


class MakingTest(BureauCase):
    def test_the_rows_are_those_that_are_given(self):
        rows = [(0, "a", 1), (0, "a", 1), (3, "b", None), (9999, "f", -2)]
        for given in (rows, tuple(rows)):
            book = Book(given)
            self.assertEqual(rows, list(book))
            self.assertEqual(4, len(book))
        self.assertEqual([], list(Book()))
        self.assertEqual(0, len(Book([])))

    def test_the_first_wrong_row(self):
        good = (4, "a", 1)
        for thing in BAD_ROWS:
            with self.subTest(thing=thing):
                self.assert_raises(BadRow, (0,), Book, [thing, thing])
                self.assert_raises(BadRow, (2,), Book, [good, good, thing, (1, "a", 1)])
                self.assert_raises(BadRow, (1,), Book, [good, (3, "a", 1), thing])

    def test_falling_days(self):
        self.assert_raises(BadRow, (1,), Book, [(1, "a", 1), (0, "a", 1)])
        self.assert_raises(BadRow, (3,), Book, ((1, "a", 1), (5, "a", 1), (5, "b", 1), (4, "a", 1)))

    def test_the_book_of_some_rows(self):
        rows = [(3, "a", 1), (1, "b", None), (3, "a", 0), (1, "a", 5), (2, "f", 2), (1, "b", None), (3, "a", 1)]
        expected = [
            (1, "b", None), (1, "a", 5), (1, "b", None), (2, "f", 2), (3, "a", 1), (3, "a", 0), (3, "a", 1),
        ]
        self.assertEqual(expected, list(Book.of(rows)))
        self.assertEqual(expected, list(Book.of(tuple(rows))))
        self.assertEqual([], list(Book.of([])))
        self.assertEqual((3, "a", 1), rows[0])
        self.assertEqual(7, len(rows))

    def test_the_book_of_rows_looks_at_the_rows_in_their_order(self):
        for thing in BAD_ROWS:
            with self.subTest(thing=thing):
                self.assert_raises(BadRow, (1,), Book.of, [(5, "a", 1), thing, (0, "a", 1), thing])

    def test_a_book_of_many_rows(self):
        rows = [(k * 37 // 5 % 100, "abcdef"[k % 6], k) for k in range(200)]
        self.assertEqual(sorted(rows, key=lambda row: row[0]), list(Book.of(rows)))

    def test_books_keep_their_own_rows(self):
        rows = [(1, "a", 1), (2, "b", 2)]
        books = [Book(rows), Book.of(rows)]
        rows[0] = (2, "c", 3)
        rows.append((0, "a", 1))
        for book in books:
            self.assertEqual([(1, "a", 1), (2, "b", 2)], list(book))

    def test_beside_other_books_and_things(self):
        rows = [(1, "a", 1), (2, "b", None)]
        self.assertIs(True, Book(rows) == Book(tuple(rows)))
        self.assertIs(False, Book(rows) != Book.of(rows[::-1]))
        for other in ([], rows[:1], [(1, "a", 1), (2, "b", 0)], [(1, "a", 1), (3, "b", None)], rows + rows[1:]):
            self.assertIs(False, Book(rows) == Book(other))
        self.assert_unequal_to_others(Book(rows), (rows, tuple(rows), Book(rows).text(), None, 0))
        self.assert_unequal_to_others(Book(), ([], (), "", None, False, 0))


class TextTest(BureauCase):
    ROWS = [(0, "a", 0), (0, "f", None), (7, "b", -3), (10, "c", 10 ** 14), (345, "d", -LONG), (9999, "e", 12)]

    def test_the_text_of_a_book(self):
        self.assertEqual("", Book().text())
        self.assertEqual("   1 a               +5\n   1 b                .",
                         Book([(1, "a", 5), (1, "b", None)]).text())
        self.assertEqual("\n".join([row_text(row) for row in self.ROWS]), Book(self.ROWS).text())

    def test_texts_are_read_back(self):
        self.assertEqual([], list(Book.read("")))
        for count in range(len(self.ROWS) + 1):
            book = Book(self.ROWS[:count])
            self.assertEqual(book, Book.read(book.text()))
        for row in GOOD_ROWS:
            self.assertEqual([row], list(Book.read(row_text(row))))

    def test_a_character_that_is_changed_left_out_or_put_in(self):
        text = Book(self.ROWS[1:5]).text()
        for at in range(len(text) + 1):
            changed = [text[:at] + sign + text[at + 1:] for sign in SIGNS]
            more = [text[:at] + sign + text[at:] for sign in SIGNS]
            for other in changed + more + [text[:at] + text[at + 1:]]:
                with self.subTest(other=other):
                    self.assert_read(other)

    def assert_read(self, text):
        """The text is read as point 6 and the interface tell, by the expression above."""
        wrong = wrong_line(text)
        if wrong is not None:
            self.assert_raises(BadText, (wrong,), Book.read, text)
        elif falling_place(text) is not None:
            self.assert_raises(BadRow, (falling_place(text),), Book.read, text)
        else:
            self.assertEqual(text, Book.read(text).text())

    def test_lines_that_are_no_texts_of_rows(self):
        lines = [
            "   1 a               -0", "   1 a              +05", "   1 a              +00",
            "   1 a                5", "   1 a                0", "   1 a               + ",
            "   1 a                +", "   1 a                -", "   1 a               ..",
            "   1 a +5", "   1 a .", "   1 a                 ", "   1 a",
            "   1 a             +5  ", "   1 a              + 5", "   1 a              +-5",
            "   1 g               +5", "   1 A               +5", "   1                 +5",
            "  01 a               +5", "0001 a               +5", "1    a               +5",
            "  1  a               +5", "  -1 a               +5", "  +1 a               +5",
            "     a               +5", "10000 a               +5", "   1  a              +5",
            "   1 a  +" + "9" * 40, "   1 a +" + "9" * 41, "   1 a -" + "9" * 41,
            "   1 a +0" + "9" * 16, "   1 a  +" + "9" * 16, "   1 a +" + "9" * 5000,
            "   1 a              +_5", "   1 a             +5_0", "   1 a              0x5",
            "   1\na               +5", "   1 a" + " " * 16 + "5.", "\n", "",
            "   1 a               +5 ", " " * 23, "-", "   1 a              +5a",
        ]
        good = "   0 a               +5"
        for line in lines:
            with self.subTest(line=line):
                text = good + "\n" + line + "\nx"
                self.assert_raises(BadText, (1,), Book.read, text)
                if line:
                    self.assert_raises(BadText, (0,), Book.read, line)

    def test_empty_lines(self):
        text = Book(self.ROWS).text()
        self.assert_raises(BadText, (0,), Book.read, "\n")
        self.assert_raises(BadText, (0,), Book.read, "\n" + text)
        self.assert_raises(BadText, (6,), Book.read, text + "\n")
        self.assert_raises(BadText, (3,), Book.read, "\n\n".join([Book(self.ROWS[:3]).text(), text]))

    def test_lines_that_are_left_out_or_exchanged(self):
        lines = Book(self.ROWS).text().split("\n")
        for at in range(len(lines)):
            self.assertEqual(self.ROWS[:at] + self.ROWS[at + 1:], list(Book.read("\n".join(lines[:at] + lines[at + 1:]))))
        lines[2], lines[4] = lines[4], lines[2]
        self.assert_raises(BadRow, (3,), Book.read, "\n".join(lines))

    def test_wrong_lines_come_before_falling_days(self):
        lines = Book(self.ROWS).text().split("\n")[::-1]
        self.assert_raises(BadRow, (1,), Book.read, "\n".join(lines))
        for at in range(len(lines)):
            wrong = lines[:at] + [lines[at].replace(" ", "_", 1).lower() + " "] + lines[at + 1:]
            self.assert_raises(BadText, (at,), Book.read, "\n".join(wrong))
            self.assert_raises(BadText, (at,), Book.read, "\n".join(wrong) + "\n")


class PlacesTest(BureauCase):
    ROWS = [(0, "a", 1), (3, "b", None), (3, "c", 3), (3, "c", 3), (7, "d", -4)]
    OUTSIDE = (-6, -5, -2, -1, 5, 6, 10 ** 20)

    def setUp(self):
        self.book = Book(self.ROWS)

    def tearDown(self):
        self.assertEqual(self.ROWS, list(self.book))

    def test_the_row_at_a_place(self):
        self.assertEqual(self.ROWS, [self.book[place] for place in range(5)])

    def test_places_outside(self):
        for place in self.OUTSIDE:
            with self.subTest(place=place):
                self.assert_raises(NoRow, (place,), lambda: self.book[place])
                self.assert_raises(NoRow, (place,), self.book.changed, place, 1)
                self.assert_raises(NoRow, (place,), self.book.changed, place, LONG + 1)
                self.assert_raises(NoRow, (place,), self.book.without, place)
                self.assert_raises(NoRow, (place,), self.book.copied, place)
                self.assert_raises(NoRow, (place,), self.book.swapped, place)
        for place in (-1, 0, 1):
            for call in (lambda: Book()[place], lambda: Book().without(place), lambda: Book().copied(place),
                         lambda: Book().swapped(place), lambda: Book().changed(place, None)):
                self.assert_raises(NoRow, (place,), call)

    def test_changed(self):
        for amount in (None, 0, -5, LONG, -LONG):
            for place in range(5):
                day, mark, _ = self.ROWS[place]
                expected = self.ROWS[:place] + [(day, mark, amount)] + self.ROWS[place + 1:]
                self.assertEqual(expected, list(self.book.changed(place, amount)))
        for amount in (LONG + 1, -LONG - 1, True, False):
            self.assert_raises(BadRow, (4,), self.book.changed, 4, amount)
            self.assert_raises(BadRow, (0,), self.book.changed, 0, amount)

    def test_without_and_copied(self):
        for place in range(5):
            self.assertEqual(self.ROWS[:place] + self.ROWS[place + 1:], list(self.book.without(place)))
            copied = self.ROWS[:place] + [self.ROWS[place]] * 2 + self.ROWS[place + 1:]
            self.assertEqual(copied, list(self.book.copied(place)))
        self.assertEqual(Book(), Book([(1, "a", 1)]).without(0))

    def test_swapped(self):
        expected = [(0, "a", 1), (3, "c", 3), (3, "b", None), (3, "c", 3), (7, "d", -4)]
        self.assertEqual(expected, list(self.book.swapped(1)))
        self.assertEqual(self.ROWS, list(self.book.swapped(2)))
        self.assert_raises(BadRow, (1,), self.book.swapped, 0)
        self.assert_raises(BadRow, (4,), self.book.swapped, 3)
        self.assert_raises(NoRow, (4,), self.book.swapped, 4)
        self.assert_raises(NoRow, (0,), Book([(1, "a", 1)]).swapped, 0)

    def test_until_and_since(self):
        for day in (-10 ** 20, -1, 0, 1, 2, 3, 4, 6, 7, 8, 9999, 10000, 10 ** 20):
            self.assertEqual([row for row in self.ROWS if row[0] <= day], list(self.book.until(day)))
            self.assertEqual([row for row in self.ROWS if row[0] >= day], list(self.book.since(day)))
        self.assertEqual(Book(), Book().until(0))
        self.assertEqual(Book(), Book().since(0))

    def test_days(self):
        self.assertEqual([0, 3, 7], self.book.days())
        self.assertEqual([], Book().days())
        self.book.days().append(8)
        self.assertEqual([0, 3, 7], self.book.days())


class JoiningTest(BureauCase):
    def assert_kept(self, *pairs):
        for book, rows in pairs:
            self.assertEqual(rows, list(book))

    def test_one_behind_the_other(self):
        first, second = [(1, "a", 1), (4, "b", 2)], [(4, "c", 3), (5, "d", None)]
        a, b = Book(first), Book(second)
        self.assertEqual(first + second, list(a + b))
        self.assertEqual(first + first[1:], list(a + Book(first[1:])))
        self.assertEqual(first, list(a + Book()))
        self.assertEqual(first, list(Book() + a))
        self.assertEqual([], list(Book() + Book()))
        self.assert_raises(BadRow, (2,), lambda: b + a)
        self.assert_raises(BadRow, (2,), lambda: a + Book([(3, "a", 1), (9, "a", 1)]))
        self.assert_kept((a, first), (b, second))

    def test_one_comes_late(self):
        first = [(1, "a", 1), (4, "b", 2), (4, "b", 3), (6, "a", 1)]
        second = [(0, "c", 3), (1, "a", 1), (1, "d", 7), (4, "b", 2), (5, "f", 5), (9, "a", None)]
        a, b = Book(first), Book(second)
        expected = [
            (0, "c", 3), (1, "a", 1), (1, "a", 1), (1, "d", 7), (4, "b", 2), (4, "b", 3), (4, "b", 2),
            (5, "f", 5), (6, "a", 1), (9, "a", None),
        ]
        self.assertEqual(expected, list(a | b))
        self.assertEqual([(1, "a", 1), (1, "d", 7), (1, "a", 1)], list((b | a))[1:4])
        self.assertEqual(first, list(a | Book()))
        self.assertEqual(first, list(Book() | a))
        self.assertEqual([], list(Book() | Book()))
        self.assert_kept((a, first), (b, second))

    def test_all_rows_of_one_day(self):
        first, second = [(5, "b", k) for k in range(200)], [(5, "a", -k) for k in range(200)]
        self.assertEqual(first + second, list(Book(first) | Book(second)))
        self.assertEqual(second + first, list(Book(second) | Book(first)))

    def test_followed_by_a_book(self):
        first, second = [(2, "a", 1), (4, "b", None)], [(7, "c", 3), (7, "d", 4), (9, "e", 5)]
        a, b = Book(first), Book(second)
        later = first + [(5, "c", 3), (5, "d", 4), (7, "e", 5)]
        self.assertEqual(later, list(a.followed(b)))
        self.assertEqual(later, list(a.followed(b, same=False)))
        self.assertEqual(first + [(4, "c", 3), (4, "d", 4), (6, "e", 5)], list(a.followed(b, same=True)))
        self.assertEqual(second + [(10, "a", 1), (12, "b", None)], list(b.followed(a)))
        self.assertEqual(second + [(9, "a", 1), (11, "b", None)], list(b.followed(a, same=True)))
        self.assertEqual(first + [(4, "a", 1), (6, "b", None)], list(a.followed(a, same=True)))
        self.assert_kept((a, first), (b, second))

    def test_followed_beside_an_empty_book(self):
        rows = [(9998, "a", 1), (9999, "b", None)]
        for same in (True, False):
            self.assertEqual(rows, list(Book(rows).followed(Book(), same=same)))
            self.assertEqual(rows, list(Book().followed(Book(rows), same=same)))
            self.assertEqual([], list(Book().followed(Book(), same=same)))

    def test_followed_beyond_the_last_day(self):
        last = Book([(0, "a", 1), (9999, "a", 1)])
        more = Book([(0, "b", 1), (0, "b", 2), (1, "b", 3), (1, "b", 4)])
        self.assert_raises(BadRow, (2,), last.followed, more)
        self.assert_raises(BadRow, (4,), last.followed, more, same=True)
        self.assertEqual(4, len(last.followed(more.until(0), same=True)))
        self.assertEqual(9999, Book([(9998, "a", 1)]).followed(Book([(0, "b", 2)]))[1][0])
        early = Book([(9, "a", 1)])
        self.assertEqual(9999, early.followed(Book([(0, "b", 1), (9989, "b", 1)]))[2][0])
        self.assert_raises(BadRow, (2,), early.followed, Book([(0, "b", 1), (9990, "b", 1), (9999, "b", 1)]))
        self.assertEqual(9999, early.followed(Book([(0, "b", 1), (9990, "b", 1)]), same=True)[2][0])

    def test_the_keeping_of_days_is_told_by_name(self):
        with self.assertRaises(TypeError):
            Book().followed(Book(), True)

    def test_books_of_two_hundred_rows(self):
        rows = [(k, "abcdef"[k % 6], k) for k in range(200)]
        book = Book(rows)
        self.assertEqual(book, Book.read(book.text()))
        self.assertEqual(400, len(book.followed(book, same=True)))
        self.assertEqual(398, book.followed(book, same=True)[399][0])
        self.assertEqual(399, book.followed(book)[399][0])


if __name__ == "__main__":
    unittest.main()
