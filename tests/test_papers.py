import random
import unittest

from judge_search import random_book
from paper_lines import bad_line
from support import BureauCase

from pagebureau.base.errors import BadText
from pagebureau.base.fracs import Frac
from pagebureau.base.rows import Book
from pagebureau.flows.figures import Report
from pagebureau.papers.kinds import BarPaper, BasisPaper, MixturePaper, OrderPaper, Paper, PartingPaper, SourcesPaper
from pagebureau.shares.tables import Table

HALF = Frac(1, 2)
BOOK = Book([(0, "a", 1), (0, "b", None), (2, "c", -3)])
KINDS = (OrderPaper, BasisPaper, PartingPaper, SourcesPaper, MixturePaper, BarPaper)


def told_papers():
    """Some papers with their texts."""
    return [
        (OrderPaper([], []), "order\norder"),
        (OrderPaper([2, 0, 1], [[(-3, 1), (5, 0)], [], [(10 ** 59, -2)]]), f"order\norder 2 0 1\nprices -3 1 5 0\nprices\nprices {10 ** 59} -2"),
        (BasisPaper([], [], []), "basis\nstart"),
        (BasisPaper([BOOK], [1], [[[0], [HALF], [-1], [Frac(-7, 3)], [2], [3]]]),
         "basis\nstart 1\nbook 0a1,0b.,2c-3\nshadow 0\nshadow 1/2\nshadow -1\nshadow -7/3\nshadow 2\nshadow 3"),
        (BasisPaper([Book(), BOOK], [HALF, 0], [[[0, 1]] * 6, [[HALF, Frac(-4)]] * 6]),
         "basis\nstart 1/2 0\nbook -" + "\nshadow 0 1" * 6 + "\nbook 0a1,0b.,2c-3" + "\nshadow 1/2 -4" * 6),
        (PartingPaper(BOOK), "parting\nbook 0a1,0b.,2c-3"), (PartingPaper(Book()), "parting\nbook -"),
        (PartingPaper(Book([(9999, "f", -(10 ** 40 - 1)), (9999, "a", 0)])), "parting\nbook 9999f-" + "9" * 40 + ",9999a0"),
        (SourcesPaper(0, []), "sources\nconstant 0"), (SourcesPaper(-5, [(3, 4), (0, -1), (10 ** 59, 0)]), f"sources\nconstant -5\nweight 3 4\nweight 0 -1\nweight {10 ** 59} 0"),
        (MixturePaper([]), "mixture\nweights"), (MixturePaper([1, HALF, Frac(-2, 7), 0]), "mixture\nweights 1 1/2 -2/7 0"),
        (BarPaper([]), "bar"), (BarPaper([(HALF, Table(a=1)), (-2, Table(f=10 ** 18, b=3))]), "bar\ntable 1/2 1 0 0 0 0 0\ntable -2 0 3 0 0 0 1000000000000000000"),
    ]


class FieldsTest(BureauCase):
    def test_kinds(self):
        self.assertEqual(["order", "basis", "parting", "sources", "mixture", "bar"], [kind.KIND for kind in KINDS])
        for kind in KINDS:
            self.assertEqual((Paper,), kind.__bases__)
            self.assertTrue({"text", "examine", "__eq__", "__init__"} <= set(vars(kind)))

    def test_lists_are_copied(self):
        order, prices = [1, 0], [[(3, 1)]]
        paper = OrderPaper(order, prices)
        order.append(2)
        prices[0].append((4, 1))
        prices.append([])
        self.assertEqual(([1, 0], [[(3, 1)]]), (paper.order, paper.prices))
        books, start, shadows = [BOOK], [1], [[[1], [2]]]
        paper = BasisPaper(books, start, shadows)
        books.append(BOOK)
        start.append(2)
        shadows[0][0].append(3)
        shadows[0].append([3])
        shadows.append([])
        self.assertEqual(([BOOK], [Frac(1)], [[[Frac(1)], [Frac(2)]]]), (paper.books, paper.start, paper.shadows))
        weights = [(0, 1)]
        paper = SourcesPaper(3, weights)
        weights.append((1, 1))
        self.assertEqual((3, [(0, 1)]), (paper.constant, paper.weights))
        weights = [HALF]
        paper = MixturePaper(weights)
        weights.append(HALF)
        self.assertEqual([HALF], paper.weights)

    def test_tables_are_copied(self):
        table = Table(a=1)
        bar = [(1, table)]
        paper = BarPaper(bar)
        table.put("a", 7)
        bar.append((2, table))
        self.assertEqual([(Frac(1), Table(a=1))], paper.bar)
        self.assertIs(tuple, type(paper.bar[0]))

    def test_kinds_of_fields(self):
        paper = OrderPaper((0,), (((1, 2),),))
        self.assertEqual((list, list, list, tuple), (type(paper.order), type(paper.prices), type(paper.prices[0]), type(paper.prices[0][0])))
        paper = BasisPaper((BOOK,), (1, HALF), (((1,), (HALF,)),))
        self.assertEqual((list, list, list, list, list), tuple(type(each) for each in (paper.books, paper.start, paper.shadows, paper.shadows[0], paper.shadows[0][0])))
        numbers = [*paper.start, *paper.shadows[0][0], *paper.shadows[0][1], *MixturePaper((3, HALF)).weights, BarPaper([(3, Table())]).bar[0][0]]
        self.assertTrue(all(type(number) is Frac for number in numbers))
        self.assertEqual((list, tuple), (type(SourcesPaper(1, ((0, 1),)).weights), type(SourcesPaper(1, ((0, 1),)).weights[0])))
        self.assertIs(BOOK, PartingPaper(BOOK).book)


class TextsTest(BureauCase):
    def test_texts(self):
        for paper, text in told_papers():
            self.assertEqual(text, paper.text())
            self.assertIsNone(bad_line(text), text)
            found = Paper.read(text)
            self.assertIs(type(paper), type(found))
            self.assertEqual(vars(paper), vars(found))
            self.assertTrue(found == paper and paper == found and not found != paper)
            self.assertEqual(text, found.text())

    def test_equal_papers(self):
        papers = [paper for paper, _ in told_papers()]
        for at, paper in enumerate(papers):
            self.assert_unequal_to_others(paper, papers[:at] + papers[at + 1:] + [None, 3, paper.text(), paper.KIND, [paper], BOOK, Report.read("count a")])
        self.assertTrue(MixturePaper([1, 2]) == MixturePaper([Frac(1), Frac(4, 2)]))
        self.assertTrue(BasisPaper([BOOK], [1], [[[0]] * 6]) == BasisPaper((BOOK,), (Frac(1),), (((Frac(0),),) * 6,)))

    def test_numbers_of_shadows(self):
        for many in range(45):
            text = "\n".join(["basis", "start 1", "book -", *["shadow 1"] * many])
            if many in (6, 12, 18, 24, 30, 36):
                self.assertEqual(many, len(Paper.read(text).shadows[0]))
            else:
                self.assert_raises(BadText, (min(many, 36) + 3,), Paper.read, text)
            two = text.replace("start 1", "start 1 1").replace("shadow 1", "shadow 1 1") + "\nbook -" + "\nshadow 0 0" * 12
            if many == 12:
                self.assertEqual([12, 12], [len(some) for some in Paper.read(two).shadows])
            else:
                self.assert_raises(BadText, (bad_line(two),), Paper.read, two)

    def test_told_wrong_lines(self):
        for text, at in [
            ("", 0), ("Order\norder", 0), ("order ", 0), ("paper\norder", 0), ("\norder", 0), ("order", 1), ("order\n", 1), ("order\norder 0\n", 2), ("order\norder -1", 1),
            ("order\norder 00", 1), ("order\norder 1 ", 1), ("order\norder  1", 1), ("order\nprices", 1), ("order\norder\nprices 1", 2), ("order\norder\nprices 1 2\nprices 1 2 3", 3),
            ("order\norder 1/2", 1), ("order\norder\nprices 1 -0", 2), ("order\norder\norder", 2), ("order\norder " + "1" * 61, 1), ("basis", 1), ("basis\nstart\nbook -", 2),
            ("basis\nstart 1", 2), ("basis\nstart 1\nbook -", 3), ("basis\nstart 2/4\n", 1), ("basis\nstart 1/1", 1), ("basis\nstart 1/0", 1), ("basis\nstart 1/-2", 1), ("basis\nstart +1", 1),
            ("basis\nbook -", 1), ("parting", 1), ("parting\nbook", 1), ("parting\nbook ", 1), ("parting\nbook - -", 1), ("parting\nbook -\n", 2), ("parting\nbook 1a1,0a1", 1),
            ("parting\nbook 10000a1", 1), ("parting\nbook 0g1", 1), ("parting\nbook 0a", 1), ("parting\nbook 0a+1", 1), ("parting\nbook 00a1", 1), ("parting\nbook 0a01", 1),
            ("parting\nbook 0a-0", 1), ("parting\nbook 0a..", 1), ("parting\nbook 0a1,", 1), ("parting\nbook ,0a1", 1), ("parting\nbook -0a1", 1), ("parting\nbook 0a" + "1" * 41, 1),
            ("parting\nbook 0a1 ,0a1", 1), ("parting\nbook a1", 1), ("parting\nbook 0A1", 1), ("sources", 1), ("sources\nconstant", 1), ("sources\nconstant 1 2", 1), ("sources\nconstant 1/2", 1),
            ("sources\nconstant 1\n", 2), ("sources\nconstant 1\nweight 1", 2), ("sources\nconstant 1\nweight 1 2 3", 2), ("sources\nconstant 1\nweight -1 2", 2), ("sources\nconstant 1\nweight 1 1/2", 2),
            ("sources\nconstant 1\nweight 1 2\nconstant 1", 3), ("mixture", 1), ("mixture\nweights 1\nweights 1", 2), ("mixture\nweight 1", 1), ("mixture\nweights 1 2/6", 1), ("bar\n", 1),
            ("bar\ntable", 1), ("bar\ntable 1", 1), ("bar\ntable 1 0 0 0 0 0", 1), ("bar\ntable 1 0 0 0 0 0 0 0", 1), ("bar\ntable 1 0 0 -1 0 0 0", 1), ("bar\ntable 1 0 0 0 0 0 0\ntable", 2),
            ("bar\ntable 1 0 0 0 0 0 1000000000000000001", 1), ("bar\ntable 1 0 0 0 0 0 1/2", 1), ("bar\ntable 1/" + "3" * 61 + " 0 0 0 0 0 0", 1), ("bar\ntables 1 0 0 0 0 0 0", 1),
        ]:
            self.assert_raises(BadText, (at,), Paper.read, text)
            self.assertEqual(at, bad_line(text), text)

    def check(self, text):
        at = bad_line(text)
        if at is None:
            self.assertEqual(text, Paper.read(text).text())
        else:
            self.assert_raises(BadText, (at,), Paper.read, text)
        return at is None

    def test_texts_that_are_spoilt_at_any_place(self):
        for _, text in told_papers():
            for at in range(len(text) + 1):
                found = [text[:at] + text[at + 1:], text[:at] + text[at:at + 2][::-1] + text[at + 2:]]
                for sign in " 0-/.a\n,":
                    found += [text[:at] + sign + text[at:], text[:at] + sign + text[at + 1:]]
                for other in found:
                    self.check(other)

    def test_texts_with_lines_in_other_places(self):
        source = random.Random(1211)
        texts = [text for _, text in told_papers()]
        right = 0
        for text in texts * 12:
            lines = text.split("\n")
            at, other = source.randrange(len(lines)), source.randrange(len(lines))
            strange = source.choice(source.choice(texts).split("\n"))
            for changed in (lines[:at] + lines[at + 1:], lines[:at] + [lines[other]] + lines[at:], lines[:at] + [strange] + lines[at:], lines[:at], [*lines, *lines[other:]]):
                right += self.check("\n".join(changed))
        self.assertLess(20, right)

    def test_random_books(self):
        source = random.Random(1212)
        for _ in range(200):
            paper = PartingPaper(random_book(source, 12, (None, 0, 1, -1, 10 ** 40 - 1, 1 - 10 ** 40)))
            self.assertEqual(paper.book, Paper.read(paper.text()).book)
            self.assertTrue(self.check(paper.text()))

    def test_numbers_of_60_digits(self):
        long, longer = "9" * 60, "9" * 61
        for text in ("order\norder {}", "order\norder\nprices 0 -{}", "sources\nconstant {}", "sources\nconstant -{}", "sources\nconstant 0\nweight {} -1", "sources\nconstant 0\nweight 0 -{}",
                     "mixture\nweights {}", "mixture\nweights -1/{}", "basis\nstart {}\nbook -" + "\nshadow 0" * 6, "bar\ntable {} 0 0 0 0 0 0"):
            self.assertTrue(self.check(text.replace("{}", long)), text)
            self.assertFalse(self.check(text.replace("{}", longer)), text)


if __name__ == "__main__":
    unittest.main()
