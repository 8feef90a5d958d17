import random
import unittest

from filling_search import DROP, WAYS, fates_by_definition, left_by_definition, random_filling, random_rows
from support import BureauCase

from pagebureau.base.errors import BadStep, BadText, TooLarge
from pagebureau.base.rows import Book
from pagebureau.filling.filled import amounts_after, trace
from pagebureau.filling.fillings import Filling
from pagebureau.filling.limits import fill_step, fill_text

LONG = 10 ** 40 - 1
SIX = [("down", None, "-"), ("up", 1, "a"), ("near_above", 6, "-"), ("near_below", None, "abcdef"), DROP, ("up", 2, "-")]


def rows_of(text):
    """Rows of one day, told by words like a1 (full) and b. (empty)."""
    return [(0, word[0], None if word[1:] == "." else int(word[1:])) for word in text.split()]


def amounts_of(text, words):
    return amounts_after(Filling.read(text), Book(rows_of(words)))


class MakingTest(BureauCase):
    def test_steps_in_their_order(self):
        for count in range(7):
            filling = Filling(SIX[:count])
            self.assertEqual(SIX[:count], list(filling))
            self.assertEqual(count, len(filling))
        self.assertEqual([], list(Filling()))
        self.assertEqual(SIX, list(Filling(tuple(SIX))))

    def test_the_class_value(self):
        self.assertEqual(6, Filling.MOST)
        self.assertEqual(6, Filling().MOST)

    def test_what_is_no_fill_step(self):
        for thing in (("down", 0, "-"), ("down", 7, "-"), ("drop", 1, "-"), ("down", None, "ba"), ["down", None, "-"], None, "drop",
                      ("down", True, "-"), ()):
            self.assert_raises(BadStep, (0,), Filling, [thing])
            self.assert_raises(BadStep, (2,), Filling, [DROP, SIX[0], thing, thing])
            self.assert_raises(BadStep, (5,), Filling, [*SIX[:5], thing])

    def test_too_many_steps_come_before_wrong_ones(self):
        self.assert_raises(TooLarge, (7,), Filling, [*SIX, DROP])
        self.assert_raises(TooLarge, (7,), Filling, [None] * 7)
        self.assert_raises(TooLarge, (200,), Filling, [DROP, "down"] * 100)

    def test_lists_that_were_passed_may_be_changed(self):
        steps = list(SIX)
        filling = Filling(steps)
        steps.clear()
        self.assertEqual(SIX, list(filling))
        told = list(filling)
        told.append(DROP)
        self.assertEqual(SIX, list(filling))

    def test_equality(self):
        self.assertTrue(Filling(SIX) == Filling(tuple(SIX)))
        self.assertFalse(Filling(SIX) == Filling(SIX[:5]))
        self.assertFalse(Filling([DROP, DROP]) == Filling([DROP]))
        self.assertFalse(Filling(SIX[:2]) == Filling(SIX[1::-1]))
        # Alike fillings are not equal for this.
        self.assertFalse(Filling([("up", None, "abcdef")]) == Filling())
        self.assert_unequal_to_others(Filling([DROP]), [[DROP], (DROP,), "drop", None, 0, DROP])


class TextTest(BureauCase):
    def test_texts(self):
        self.assertEqual("", Filling().text())
        self.assertEqual("drop", Filling([DROP]).text())
        self.assertEqual("down\nup rows 1 halt a\nnear_above rows 6\nnear_below halt abcdef\ndrop\nup rows 2", Filling(SIX).text())

    def test_texts_are_read_back(self):
        source = random.Random(901)
        for _ in range(200):
            filling = random_filling(source, 6)
            self.assertEqual(filling, Filling.read(filling.text()))
            self.assertEqual("\n".join(map(fill_text, filling)), filling.text())
        self.assertEqual([], list(Filling.read("")))

    def test_wrong_lines(self):
        for text, at in [
            ("\n", 0), (" ", 0), ("down ", 0), ("down\n", 1), ("\ndown", 0), ("down\n\nup", 1), ("down\nup rows 0", 1),
            ("down\nup\nnear", 2), ("drop\ndrop\ndrop\ndrop\ndrop\ndrop halt a", 5), ("x\ny", 0), ("down,up", 0),
            ("down\nup\n", 2), ("down rows 1 rows 1", 0), ("fill down", 0), ("\n\n\n\n\n", 0), ("down\n" * 5, 5),
        ]:
            with self.subTest(text=text):
                self.assert_raises(BadText, (at,), Filling.read, text)

    def test_too_many_lines_come_before_wrong_ones(self):
        self.assert_raises(TooLarge, (7,), Filling.read, "\n".join(["down"] * 7))
        self.assert_raises(TooLarge, (7,), Filling.read, "\n" * 6)
        self.assert_raises(TooLarge, (7,), Filling.read, "down\n" * 6)
        self.assert_raises(TooLarge, (9,), Filling.read, "x\n" * 8)
        self.assert_raises(TooLarge, (201,), Filling.read, "drop\n" * 200)


class OperatorTest(BureauCase):
    def test_sums(self):
        for cut in range(7):
            first, second = Filling(SIX[:cut]), Filling(SIX[cut:])
            self.assertEqual(Filling(SIX), first + second)
            self.assertEqual((SIX[:cut], SIX[cut:]), (list(first), list(second)))
        self.assert_raises(TooLarge, (7,), lambda: Filling(SIX) + Filling([DROP]))
        self.assert_raises(TooLarge, (12,), lambda: Filling(SIX) + Filling(SIX))

    def test_products_from_both_sides(self):
        for count in (0, 1, 2, 3):
            self.assertEqual(Filling(SIX[:2] * count), Filling(SIX[:2]) * count)
            self.assertEqual(Filling(SIX[:2] * count), count * Filling(SIX[:2]))
        self.assertEqual(Filling(SIX), Filling(SIX) * 1)
        self.assertEqual(Filling([DROP] * 6), 6 * Filling([DROP]))
        for count in (7, 10 ** 30):
            self.assert_raises(TooLarge, (count,), lambda: Filling([DROP]) * count)
            self.assert_raises(TooLarge, (count,), lambda: count * Filling([DROP]))
            self.assert_raises(TooLarge, (6 * count,), lambda: count * Filling(SIX))
        self.assert_raises(TooLarge, (12,), lambda: Filling(SIX) * 2)
        self.assert_raises(TooLarge, (8,), lambda: 4 * Filling(SIX[:2]))

    def test_products_of_the_empty_filling_and_with_nothing(self):
        for count in (0, 1, 6, 7, 10 ** 30):
            self.assertEqual(Filling(), Filling() * count)
            self.assertEqual(Filling(), count * Filling())
        self.assertEqual(Filling(), Filling(SIX) * 0)
        self.assertEqual(Filling(), 0 * Filling(SIX))

    def test_an_operator_makes_a_new_filling(self):
        filling = Filling(SIX)
        for other in (filling + Filling(), filling * 1, Filling() + filling):
            self.assertEqual(filling, other)
            self.assertIsNot(filling, other)


class OneStepTest(BureauCase):
    def test_down_and_up(self):
        words = "a. b1 a. a. c. d2 a."
        for text, amounts in [
            ("down", [None, 1, 1, 1, 1, 2, 2]), ("up", [1, 1, 2, 2, 2, 2, None]),
            ("down rows 1", [None, 1, 1, None, None, 2, 2]), ("up rows 1", [1, 1, None, None, 2, 2, None]),
            ("down rows 2", [None, 1, 1, 1, None, 2, 2]), ("up rows 2", [1, 1, None, 2, 2, 2, None]),
            ("down rows 3", [None, 1, 1, 1, 1, 2, 2]), ("up rows 6", [1, 1, 2, 2, 2, 2, None]),
        ]:
            self.assertEqual(amounts, amounts_of(text, words), text)

    def test_near_ways(self):
        # Five empty rows: the third is equally far from both.
        words = "a. b1 a. a. a. a. a. b2 a."
        for text, amounts in [
            ("near_above", [1, 1, 1, 1, 1, 2, 2, 2, 2]), ("near_below", [1, 1, 1, 1, 2, 2, 2, 2, 2]),
            ("near_above rows 1", [1, 1, 1, None, None, None, 2, 2, 2]),
            ("near_below rows 2", [1, 1, 1, 1, None, 2, 2, 2, 2]),
            ("near_above rows 3", [1, 1, 1, 1, 1, 2, 2, 2, 2]), ("near_below rows 3", [1, 1, 1, 1, 2, 2, 2, 2, 2]),
        ]:
            self.assertEqual(amounts, amounts_of(text, words), text)
        for way in ("near_above", "near_below"):
            self.assertEqual([1, 1, 1, 2, 2, 2], amounts_of(way, "b1 a. a. a. a. b2"))

    def test_an_empty_row_that_halts(self):
        for text, amounts in [
            ("down halt c", [1, 1, None, None, 2]), ("up halt c", [1, None, 2, 2, 2]), ("down halt b", [1, 1, 1, 1, 2]),
            ("up halt b", [1, 2, 2, 2, 2]), ("near_above halt c", [1, 1, 2, 2, 2]), ("near_below halt c", [1, 1, 2, 2, 2]),
            ("near_above halt ac", [1, None, None, 2, 2]),
        ]:
            self.assertEqual(amounts, amounts_of(text, "b1 a. c. a. d2"), text)

    def test_a_full_row_that_halts(self):
        # Its mark matters for what comes from below only, and only if it is the lower one.
        for text, amounts in [
            ("down halt d", [1, 1, 1, 2]), ("down halt b", [1, 1, 1, 2]), ("up halt d", [1, None, None, 2]),
            ("up halt b", [1, 2, 2, 2]), ("near_above halt d", [1, 1, 1, 2]), ("near_below halt d", [1, 1, 1, 2]),
            ("near_below halt b", [1, 1, 2, 2]),
        ]:
            self.assertEqual(amounts, amounts_of(text, "b1 a. a. d2"), text)

    def test_only_the_nearest_full_row_gives(self):
        self.assertEqual([1, 2, None, None], amounts_of("down halt d", "a1 b2 d. a."))
        self.assertEqual([None, None, 2, 1], amounts_of("up halt c", "a. a. c2 a1"))

    def test_halts_of_all_marks(self):
        for way in WAYS:
            self.assertEqual([1, None, None, 2], amounts_of(f"{way} halt abcdef", "b1 a. a. d2"))
            self.assertEqual([1, None, 2], amounts_of(f"{way} rows 6 halt abcdef", "b1 a. d2"))

    def test_all_rows_at_once(self):
        # A row that was filled in the same step gives nothing further.
        self.assertEqual([1, 1, None, None, 2, 2], amounts_of("down rows 1", "a1 a. a. a. a2 a."))
        self.assertEqual([1, 1, 1, None, 2, 2], amounts_of("down rows 1\ndown rows 1", "a1 a. a. a. a2 a."))

    def test_days_do_not_matter(self):
        book = Book([(0, "a", 5), (7, "a", None), (9999, "a", None)])
        self.assertEqual([5, 5, 5], amounts_after(Filling.read("down"), book))

    def test_books_without_full_rows_and_with_full_rows_only(self):
        for text in ("down", "up rows 1", "near_above", "near_below rows 6"):
            filling = Filling.read(text)
            for rows in (rows_of("a. b. c."), rows_of("a1 b2"), [], rows_of("f."), rows_of("f0")):
                self.assertEqual([row[2] for row in rows], amounts_after(filling, Book(rows)))
                self.assertEqual(Book(rows), filling(Book(rows)))
        self.assertEqual([0, 0, 0], amounts_of("near_below", "a. b0 c."))

    def test_amounts_of_40_digits(self):
        for amount in (LONG, -LONG, 0):
            book = Book([(0, "a", amount), (0, "b", None)])
            self.assertEqual([amount, amount], amounts_after(Filling.read("down"), book))
            self.assertEqual([(0, "a", amount), (0, "b", amount)], list(Filling.read("down")(book)))


class DropTest(BureauCase):
    def test_drops(self):
        for text, amounts, left in [
            ("drop", ["dropped", 1, "dropped", 2], "b1 d2"), ("drop\ndown", ["dropped", 1, "dropped", 2], "b1 d2"),
            ("up\ndrop", [1, 1, 2, 2], "a1 b1 c2 d2"), ("down\ndrop\nup", ["dropped", 1, 1, 2], "b1 c1 d2"),
            ("down\ndrop\ndrop", ["dropped", 1, 1, 2], "b1 c1 d2"), ("drop\ndrop\ndrop", ["dropped", 1, "dropped", 2], "b1 d2"),
        ]:
            book = Book(rows_of("a. b1 c. d2"))
            self.assertEqual(amounts, amounts_after(Filling.read(text), book))
            self.assertEqual(rows_of(left), list(Filling.read(text)(book)))

    def test_the_first_drop_removes(self):
        book = Book(rows_of("a. b1"))
        self.assertEqual([("dropped", None, 1), ("given", 1, None)], trace(Filling.read("down\ndrop\ndrop"), book))
        self.assertEqual([("dropped", None, 0), ("given", 1, None)], trace(Filling.read("drop\nup\ndrop"), book))

    def test_nothing_is_left(self):
        book = Book(rows_of("a. b. c."))
        self.assertEqual(["dropped"] * 3, amounts_after(Filling([DROP]), book))
        self.assertEqual(Book(), Filling([DROP])(book))
        self.assertEqual(Book(), Filling([DROP])(Book()))


class TraceTest(BureauCase):
    def test_the_empty_filling(self):
        book = Book(rows_of("a. b1"))
        self.assertEqual([("empty", None, None), ("given", 1, None)], trace(Filling(), book))
        self.assertEqual([None, 1], amounts_after(Filling(), book))
        self.assertEqual(book, Filling()(book))
        self.assertEqual([], trace(Filling(SIX), Book()))

    def test_the_place_is_that_of_the_row_with_the_amount_before_the_filling(self):
        book = Book(rows_of("a5 a. a. a. a5"))
        filling = Filling.read("down rows 1\nup rows 1\ndown rows 1\ndown rows 1")
        self.assertEqual(
            [("given", 0, None), ("filled", 0, 0), ("filled", 0, 2), ("filled", 4, 1), ("given", 4, None)],
            trace(filling, book))

    def test_random_books_held_against_the_definition(self):
        source = random.Random(902)
        for _ in range(1500):
            filling, rows = random_filling(source, 6), random_rows(source, 14)
            self.assert_as_defined(filling, rows)

    def assert_as_defined(self, filling, rows):
        book = Book(rows)
        fates = fates_by_definition(filling, rows)
        self.assertEqual(fates, trace(filling, book))
        amounts = ["dropped" if how == "dropped" else place if place is None else rows[place][2] for how, place, _ in fates]
        self.assertEqual(amounts, amounts_after(filling, book))
        self.assertEqual(left_by_definition(filling, rows), list(filling(book)))
        self.assertEqual(rows, list(book))

    def test_each_step_looks_at_the_book_that_the_earlier_ones_left(self):
        source = random.Random(903)
        for _ in range(300):
            filling, rows = random_filling(source, 6), random_rows(source, 12)
            book = Book(rows)
            for step in filling:
                book = Filling([step])(book)
            self.assertEqual(book, filling(Book(rows)))

    def test_all_steps_on_all_small_patterns(self):
        for way in WAYS:
            for limit in (None, 1, 2, 3, 4, 5, 6):
                for halt in ("-", "a", "b", "c", "ab"):
                    filling = Filling([fill_step(way, rows=limit, halt=halt)])
                    for words in ("a1 a. a. a. a. a. a. a. a2", "a1 b. a. c. a. b2", "a. a. c1 a. b. a3 c. a.", "b1 a. c2 c. b. a."):
                        self.assert_as_defined(filling, rows_of(words))

    def test_200_rows(self):
        source = random.Random(904)
        rows = [(k // 3, source.choice("abcdef"), source.choice([None] * 9 + [k])) for k in range(200)]
        self.assert_as_defined(Filling.read("down rows 6 halt a\nnear_below halt bc\nup rows 5\nnear_above rows 1\nup\ndown"), rows)
        one = [(0, "a", None)] * 150 + [(0, "a", 9)] + [(0, "a", None)] * 49
        self.assertEqual([9] * 200, amounts_after(Filling.read("near_above"), Book(one)))
        self.assertEqual([("filled", 150, 0)] * 150, trace(Filling.read("near_above"), Book(one))[:150])

    def test_what_comes_is_new(self):
        filling, book = Filling.read("down"), Book(rows_of("a1 b."))
        amounts_after(filling, book).clear()
        trace(filling, book).clear()
        self.assertEqual([1, 1], amounts_after(filling, book))
        self.assertEqual(2, len(trace(filling, book)))


if __name__ == "__main__":
    unittest.main()
