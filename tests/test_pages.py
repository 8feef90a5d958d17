import re
import unittest

from support import BureauCase

from pagebureau.base.errors import BadLine, BadText, EmptyPage
from pagebureau.base.rows import row_text
from pagebureau.ledger.pages import Page
from test_rows import BAD_ROWS, is_row_text

LONG = 10 ** 15 - 1
LINES = [(0, "a", 5, 12), (0, "f", None, 12), (3, "b", -20, -8), (3, "b", 0, -8), (9999, "c", 1, -7)]
BALANCE = re.compile(r" *(?:0|-?[1-9][0-9]{0,14})")


def many_lines(count):
    return [(k // 7, "abcdef"[k % 6], k - 30, sum(range(k + 1)) - 30 * k - 30) for k in range(count)]


def is_line_text(text):
    row, balance = text[:23], text[24:]
    if text[23:24] != " " or not is_row_text(row) or len(balance) != 16:
        return False
    return BALANCE.fullmatch(balance) is not None


class MakingTest(BureauCase):
    def test_the_lines_are_those_that_are_given(self):
        for count in range(1, 6):
            page = Page(LINES[:count])
            self.assertEqual(LINES[:count], list(page))
            self.assertEqual(count, len(page))
            self.assertEqual(page, Page(tuple(LINES[:count])))

    def test_a_page_needs_a_line(self):
        self.assert_raises(EmptyPage, (), Page, [])
        self.assert_raises(EmptyPage, (), Page, ())

    def test_lines_whose_first_items_are_no_row(self):
        rows = [row for row in BAD_ROWS if isinstance(row, tuple) and len(row) == 3]
        self.assertEqual(32, len(rows))
        for row in rows:
            with self.subTest(row=row):
                self.assert_raises(BadLine, (0,), Page, [(*row, 0)])
                for at in range(1, 6):
                    lines = LINES[:at] + [(*row, LINES[at - 1][3])] + LINES[at:]
                    self.assert_raises(BadLine, (at,), Page, lines)

    def test_things_that_are_no_lines(self):
        for thing in (None, (), (0, "a", 5), (0, "a", 5, 12, 0), (0, "a", 5, True), "0a5x", ((0, "a", 5), 12), 5):
            self.assert_raises(BadLine, (0,), Page, [thing])
            self.assert_raises(BadLine, (1,), Page, [(0, "a", 5, 12), thing])

    def test_a_list_is_no_line(self):
        for at in range(5):
            self.assert_raises(BadLine, (at,), Page, LINES[:at] + [list(LINES[at])] + LINES[at + 1:])

    def test_lines_whose_day_falls(self):
        for at in range(1, 5):
            for day in range(LINES[at - 1][0]):
                if day in (0, 2, 3, 9998):
                    lines = LINES[:at] + [(day, *LINES[at][1:])] + LINES[at + 1:]
                    self.assert_raises(BadLine, (at,), Page, lines)
        self.assert_raises(BadLine, (2,), Page, [(5, "a", 1, 1), (5, "a", 1, 2), (4, "a", 1, 3), (3, "a", 1, 4)])

    def test_lines_whose_balance_does_not_go_on(self):
        for at in range(1, 5):
            for wrong in (-1, 1, 10 ** 9):
                lines = LINES[:at] + [(*LINES[at][:3], LINES[at][3] + wrong)] + LINES[at + 1:]
                self.assert_raises(BadLine, (at,), Page, lines)

    def test_the_first_wrong_line_decides(self):
        lines = list(LINES)
        lines[4] = (10000, "a", 1, 1)
        self.assert_raises(BadLine, (4,), Page, lines)
        lines[3] = (2, "b", 0, -8)
        self.assert_raises(BadLine, (3,), Page, lines)
        lines[2] = (3, "b", -20, -9)
        self.assert_raises(BadLine, (2,), Page, lines)
        lines[1] = (0, "g", None, 12)
        self.assert_raises(BadLine, (1,), Page, lines)
        self.assert_raises(BadLine, (0,), Page, [(-1, "a", 1, 1), (-2, "g", 1, 3)])

    def test_true_and_false_are_no_integers(self):
        self.assert_raises(BadLine, (0,), Page, [(True, "a", 1, 1)])
        self.assert_raises(BadLine, (0,), Page, [(1, "a", True, 1)])
        self.assert_raises(BadLine, (1,), Page, [(0, "a", 1, 0), (0, "a", False, 0)])

    def test_pages_of_60_lines(self):
        lines = many_lines(60)
        page = Page(lines)
        self.assertEqual(60, len(page))
        self.assertEqual((0, lines[59][3], 0, 8), (page.opening, page.closing, page.first_day, page.last_day))
        self.assertEqual(page, Page.read(page.text()))
        self.assert_raises(BadLine, (59,), Page, lines[:59] + [(0, "a", 0, lines[58][3])])

    def test_pages_keep_their_own_lines(self):
        lines = list(LINES)
        page = Page(lines)
        lines[0] = (0, "b", 5, 12)
        lines.append((9999, "a", 1, -6))
        self.assertEqual(LINES, list(page))

    def test_beside_other_pages_and_things(self):
        page = Page(LINES)
        self.assertIs(True, page == Page(list(LINES)))
        self.assertIs(False, page == Page(LINES[:4]))
        self.assertIs(False, page == Page([(0, "a", 6, 12)] + LINES[1:]))
        self.assertIs(True, page != Page(LINES[1:]))
        self.assert_unequal_to_others(page, (LINES, tuple(LINES), page.text(), None, 0, page.rows()))


class PageOfTest(BureauCase):
    def test_the_page_of_some_rows(self):
        rows = [line[:3] for line in LINES]
        self.assertEqual(Page(LINES), Page.of(rows, 7))
        self.assertEqual(Page(LINES), Page.of(tuple(rows), 7))
        self.assertEqual([(1, "a", None, -9)], list(Page.of([(1, "a", None)], -9)))
        self.assertEqual(5, len(rows))

    def test_openings_of_15_digits(self):
        for opening in (LONG, -LONG, 0):
            page = Page.of([(1, "a", None), (1, "b", -opening)], opening)
            self.assertEqual((opening, 0), (page.opening, page.closing))

    def test_no_rows(self):
        self.assert_raises(EmptyPage, (), Page.of, [], 5)
        self.assert_raises(EmptyPage, (), Page.of, (), 0)

    def test_wrong_rows(self):
        good = [(4, "a", 1), (5, "b", None)]
        for thing in BAD_ROWS:
            with self.subTest(thing=thing):
                self.assert_raises(BadLine, (0,), Page.of, [thing], 0)
                self.assert_raises(BadLine, (2,), Page.of, good + [thing, (3, "a", 1)], 0)
                self.assert_raises(BadLine, (2,), Page.of, good + [(4, "a", 1), thing], 0)


class ReadingTest(BureauCase):
    def test_openings_closings_and_days(self):
        page = Page(LINES)
        self.assertEqual((7, -7, 0, 9999), (page.opening, page.closing, page.first_day, page.last_day))
        one = Page([(4, "a", None, -3)])
        self.assertEqual((-3, -3, 4, 4), (one.opening, one.closing, one.first_day, one.last_day))

    def test_an_opening_of_16_digits(self):
        page = Page([(4, "a", LONG, -LONG)])
        self.assertEqual(-2 * LONG, page.opening)
        self.assertEqual(16, len(str(abs(page.opening))))
        self.assertEqual(2 * LONG, Page([(4, "a", -LONG, LONG)]).opening)

    def test_rows_and_abs(self):
        page = Page(LINES)
        self.assertEqual([line[:3] for line in LINES], page.rows())
        page.rows().append((1, "a", 1))
        page.rows().clear()
        self.assertEqual(5, len(page.rows()))
        self.assertEqual(26, abs(page))
        self.assertEqual(0, abs(Page(LINES[1:2])))
        self.assertEqual(LONG, abs(Page([(4, "a", -LONG, 0)])))

    def test_one_page_behind_the_other(self):
        for cut in range(1, 5):
            first, second = Page(LINES[:cut]), Page(LINES[cut:])
            self.assertEqual(Page(LINES), first + second)
            self.assertEqual((cut, 5 - cut), (len(first), len(second)))
        self.assert_raises(BadLine, (2,), lambda: Page(LINES[:2]) + Page(LINES[3:]))
        self.assert_raises(BadLine, (3,), lambda: Page(LINES[2:]) + Page([(9998, "a", 1, -6)]))
        self.assert_raises(BadLine, (5,), lambda: Page(LINES) + Page(LINES))
        long = Page(many_lines(30)) + Page(many_lines(60)[30:])
        self.assertEqual(Page(many_lines(60)), long)

    def test_the_shifts(self):
        page = Page(LINES)
        for count in range(5):
            self.assertEqual(LINES[count:], list(page >> count))
            self.assertEqual(LINES[:5 - count], list(page << count))
        for count in (5, 6, 7, 9, 10, 11, 98, 99):
            self.assert_raises(EmptyPage, (), lambda: page >> count)
            self.assert_raises(EmptyPage, (), lambda: page << count)
        self.assertEqual(LINES, list(page))
        long = Page(many_lines(60))
        self.assertEqual(many_lines(60)[59:], list(long >> 59))
        self.assertEqual(many_lines(1), list(long << 59))
        self.assert_raises(EmptyPage, (), lambda: long << 60)

    def test_operators_give_pages(self):
        page = Page(LINES)
        for result in (page >> 1, page << 1, Page(LINES[:2]) + Page(LINES[2:]), Page.of(page.rows(), 7)):
            self.assertIs(Page, type(result))


class TextTest(BureauCase):
    def test_the_text_of_a_page(self):
        expected = [
            ((0, "a", 5, 12), "   0 a               +5               12"),
            ((9999, "f", None, -7), "9999 f                .               -7"),
            ((12, "b", 0, 0), "  12 b               +0                0"),
            ((12, "b", -LONG, -LONG), "  12 b -999999999999999 -999999999999999"),
            ((123, "c", LONG, LONG), " 123 c +999999999999999  999999999999999"),
        ]
        for line, text in expected:
            self.assertEqual(text, Page([line]).text())
            self.assertEqual([line], list(Page.read(text)))
        texts = [row_text(line[:3]) + " " + str(line[3]).rjust(16) for line in LINES]
        self.assertEqual("\n".join(texts), Page(LINES).text())

    def test_texts_are_read_back(self):
        for count in range(1, 6):
            self.assertEqual(LINES[:count], list(Page.read(Page(LINES[:count]).text())))

    def test_lines_of_too_many_digits(self):
        for text in (
            "   1 a +1000000000000000                5", "   1 a -1000000000000000                5",
            "   1 a               +5 1000000000000000", "   1 a               +5 -1000000000000000",
            "   1 a               +5 9999999999999999", "   1 a +" + "9" * 40 + "                5",
            "   1 a               +5 " + "9" * 5000,
        ):
            self.assert_raises(BadText, (0,), Page.read, text)

    def test_texts_of_no_line(self):
        for text in (
            "", " ", "\n", "   1 a               +5", "   1 a               +5 ", "   1 a +5 5", "   1 a . 5",
            "   1 a               +5               +5", "   1 a               +5               05",
            "   1 a               +5               -0", "   1 a               +5                .",
            "   1 a               +5                ", "   1 a               +5              5 ",
            "   1 a               +5                 5", "   1 a               +5               5",
            "   1 a               +5_               5", "   1 a               +5              - 5",
            "   1 g               +5                5", "  01 a               +5                5",
            "   1 a               -0                5", "   1 a                5                5",
            "   1 a               +5               5\n",
        ):
            with self.subTest(text=text):
                self.assert_raises(BadText, (0,), Page.read, text)
                self.assert_raises(BadText, (5,), Page.read, Page(LINES).text() + "\n" + text)

    def test_wrong_texts_come_before_wrong_lines(self):
        lines = Page(LINES).text().split("\n")
        exchanged = [lines[0], lines[2], lines[1], lines[3], lines[4]]
        self.assert_raises(BadLine, (2,), Page.read, "\n".join(exchanged))
        self.assert_raises(BadText, (4,), Page.read, "\n".join(exchanged[:4] + [lines[4] + " "]))
        self.assert_raises(BadText, (5,), Page.read, "\n".join(exchanged) + "\n")
        self.assert_raises(BadText, (0,), Page.read, "\n" + "\n".join(exchanged))
        for at in range(1, 4):
            rest = "\n".join(lines[:at] + lines[at + 1:])
            if LINES[at][3] == LINES[at - 1][3]:
                self.assertEqual(4, len(Page.read(rest)))
            else:
                self.assert_raises(BadLine, (at,), Page.read, rest)
        self.assertEqual(Page(LINES[1:]), Page.read("\n".join(lines[1:])))
        self.assertEqual(Page(LINES[:4]), Page.read("\n".join(lines[:4])))

    def test_a_character_that_is_changed_left_out_or_put_in(self):
        text = Page(LINES[1:3]).text()
        for at in range(len(text) + 1):
            texts = [text[:at] + text[at + 1:]]
            for sign in "abg 0129+-.\n":
                texts += [text[:at] + sign + text[at:], text[:at] + sign + text[at + 1:]]
            for other in texts:
                with self.subTest(other=other):
                    self.assert_read(other)

    def assert_read(self, text):
        wrong = next((at for at, line in enumerate(text.split("\n")) if not is_line_text(line)), None)
        if wrong is not None:
            self.assert_raises(BadText, (wrong,), Page.read, text)
            return
        words = [line.split() for line in text.split("\n")]
        days = [int(word[0]) for word in words]
        amounts = [0 if word[2] == "." else int(word[2]) for word in words]
        balances = [int(word[3]) for word in words]
        if len(words) == 2 and (days[1] < days[0] or balances[0] + amounts[1] != balances[1]):
            self.assert_raises(BadLine, (1,), Page.read, text)
        else:
            self.assertEqual(text, Page.read(text).text())


if __name__ == "__main__":
    unittest.main()
