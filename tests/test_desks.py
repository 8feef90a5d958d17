import unittest

from support import BureauCase

from pagebureau.base.errors import (
    BadDay, BadDeed, BadRequest, BadRow, BureauError, Clash, ManyGaps, NoName, NoRow, NoService, NothingToUndo, Refused, SameName,
    TooLarge,
)
from pagebureau.base.fracs import Frac
from pagebureau.base.marks import Marks
from pagebureau.base.rows import Book
from pagebureau.desk.desks import Desk
from pagebureau.flows.figures import Rate, Report, Sheet
from pagebureau.flows.pipelines import Pipeline
from pagebureau.ledger.mending import Mended
from pagebureau.ledger.pages import Page
from pagebureau.posting.batches import Batch
from pagebureau.posting.plans import Plan, Reply
from pagebureau.posting.services import Service, Store
from pagebureau.shares.formulas import Formula

COUNT, SUM = Report.read("count abcdef"), Report.read("sum a")
SHEET = Sheet(Pipeline(), Formula.share(Marks("a"), Marks("ab")))
RATE = Rate(SUM, Report.read("count a"))


def all_of(desk):
    """All that a desk tells of itself, but for its day."""
    accounts = []
    for name in desk:
        try:
            store = desk.store_of(name)
        except NoService:
            store = None
        accounts.append((name, list(desk.book_of(name)), None if store is None else (store.shared, [store[day] for day in range(5)])))
    return accounts, [(name, desk.value(name)) for name in desk.questions()]


def filled_desk():
    """A desk with two accounts, one of which has a service, and questions."""
    desk = Desk()
    desk.begin("till", Service.last_seat())
    desk.begin("Box 2")
    desk.enter("till", [(1, "a", 5), (3, "b", None)])
    desk.enter("Box 2", [(2, "a", 7), (2, "c", -1)])
    desk.file("sum", SUM)
    desk.file("count", COUNT)
    desk.file("share", SHEET)
    return desk


class DeskCase(BureauCase):
    def assert_refused(self, desk, error, fields, call, *given, **more):
        """The call raises the error and changes nothing, also not the depth and the day."""
        before = (all_of(desk), desk.depth, desk.day)
        self.assert_raises(error, fields, call, *given, **more)
        self.assertEqual(before, (all_of(desk), desk.depth, desk.day))

    def assert_deed(self, desk, call, *given, **more):
        """The call is one deed, which undo takes back; returns what it returns."""
        before, depth = all_of(desk), desk.depth
        value = call(*given, **more)
        self.assertEqual(depth + 1, desk.depth)
        after = all_of(desk)
        desk.undo()
        self.assertEqual((before, depth), (all_of(desk), desk.depth))
        call(*given, **more)
        self.assertEqual((after, depth + 1), (all_of(desk), desk.depth))
        return value


class AccountsTest(DeskCase):
    def test_a_new_desk(self):
        desk = Desk()
        self.assertEqual(([], 0, None, 0, [], []), (list(desk), len(desk), desk.day, desk.depth, desk.questions(), desk.lines()))
        self.assertNotIn("", desk)
        self.assert_refused(desk, NothingToUndo, (), desk.undo)

    def test_begin(self):
        desk = Desk()
        names = ["b", "", "a b\nc", "=", "B", "%d", "b" * 300]
        for at, name in enumerate(names):
            self.assertNotIn(name, desk)
            self.assertIsNone(self.assert_deed(desk, desk.begin, name))
            self.assertIn(name, desk)
            self.assertEqual(Book(), desk.book_of(name))
            self.assertEqual((names[:at + 1], at + 1), (list(desk), len(desk)))
        for name in names:
            self.assert_refused(desk, SameName, (name,), desk.begin, name)
            self.assert_refused(desk, SameName, (name,), desk.begin, name, Service.last_seat())
        self.assertEqual(len(names), desk.depth)

    def test_services(self):
        desk = Desk()
        desk.begin("with", Service.last_seat())
        desk.begin("without", None)
        self.assertEqual(Store.empty(), desk.store_of("with"))
        self.assert_raises(NoService, ("without",), desk.store_of, "without")
        self.assert_raises(NoName, ("other",), desk.store_of, "other")
        self.assert_raises(NoName, ("other",), desk.book_of, "other")

    def test_names_that_accounts_and_questions_share(self):
        desk = Desk()
        desk.begin("one")
        desk.file("one", COUNT)
        desk.file("two", SUM)
        self.assertTrue("one" in desk and "two" not in desk)
        desk.enter("one", [(0, "a", 4)])
        self.assertEqual([1, 4], [desk.value("one"), desk.value("two")])
        desk.withdraw("one")
        self.assertTrue("one" in desk and desk.questions() == ["two"])
        self.assert_refused(desk, NoName, ("one",), desk.withdraw, "one")
        self.assert_refused(desk, NoName, ("one",), desk.value, "one")
        self.assert_refused(desk, NoName, ("two",), desk.book_of, "two")
        self.assert_refused(desk, NoName, ("two",), desk.enter, "two", [])

    def test_desks_share_nothing(self):
        one, other = filled_desk(), filled_desk()
        other.enter("till", [(0, "a", 1)])
        other.see(3)
        self.assertEqual(all_of(filled_desk()), all_of(one))
        self.assertIsNone(one.day)


class RowsTest(DeskCase):
    def test_enter(self):
        desk = Desk()
        desk.begin("x")
        rows = [(4, "a", 1), (2, "b", None), (4, "c", 3)]
        self.assertIsNone(self.assert_deed(desk, desk.enter, "x", rows))
        self.assertEqual([(2, "b", None), (4, "a", 1), (4, "c", 3)], list(desk.book_of("x")))
        self.assertEqual([(4, "a", 1), (2, "b", None), (4, "c", 3)], rows)
        self.assert_deed(desk, desk.enter, "x", ((2, "d", 0), (4, "a", 1), (0, "f", -5), (9999, "a", 1)))
        expected = [(0, "f", -5), (2, "b", None), (2, "d", 0), (4, "a", 1), (4, "c", 3), (4, "a", 1), (9999, "a", 1)]
        self.assertEqual(expected, list(desk.book_of("x")))
        self.assert_deed(desk, desk.enter, "x", [])
        self.assertEqual(expected, list(desk.book_of("x")))

    def test_enter_by_a_sign(self):
        desk = same = filled_desk()
        depth = desk.depth
        desk += ("till", [(3, "c", 2), (1, "b", 9)])
        self.assertIs(same, desk)
        self.assertEqual([(1, "a", 5), (1, "b", 9), (3, "b", None), (3, "c", 2)], list(desk.book_of("till")))
        self.assertEqual(depth + 1, desk.depth)
        for pair, error, fields in ((("other", [(0, "a", 1)]), NoName, ("other",)), (("till", [(0, "a", 1), (0, "a", True)]), BadRow, (1,))):
            before = all_of(desk)
            with self.assertRaises(error) as caught:
                desk += pair
            self.assertEqual((fields, before), (tuple(vars(caught.exception).values()), all_of(desk)))
        self.assertEqual(depth + 1, desk.depth)

    def test_rows_that_are_none(self):
        desk = filled_desk()
        for row in [(0, "a"), [0, "a", 1], (-1, "a", 1), (10000, "a", 1), (0, "g", 1), (0, "ab", 1), (0, "a", 10 ** 40), (True, "a", 1), (0, "a", False), None, "0a1"]:
            self.assert_refused(desk, BadRow, (1,), desk.enter, "till", [(9, "a", 1), row, None])
            self.assert_refused(desk, BadRow, (0,), desk.amend, "till", 0, row)
        self.assert_refused(desk, NoName, ("x",), desk.enter, "x", [None])

    def test_amend(self):
        desk = filled_desk()
        self.assertIsNone(self.assert_deed(desk, desk.amend, "till", 1, (3, "f", 8)))
        self.assertEqual([(1, "a", 5), (3, "f", 8)], list(desk.book_of("till")))
        self.assert_deed(desk, desk.amend, "till", 0, (1, "a", 5))
        self.assert_deed(desk, desk.__setitem__, ("Box 2", 0), (2, "b", None))
        self.assertEqual([(2, "b", None), (2, "c", -1)], list(desk.book_of("Box 2")))
        self.assertEqual(((3, "f", 8), (2, "c", -1)), (desk["till", 1], desk["Box 2", 1]))
        for call in (desk.amend, lambda name, place, row: desk.__setitem__((name, place), row)):
            self.assert_refused(desk, NoName, ("x",), call, "x", -1, None)
            for place in (-1, 2, 7):
                self.assert_refused(desk, NoRow, (place,), call, "till", place, (5, "a", True))
                self.assert_refused(desk, NoRow, (place,), call, "till", place, (1, "a", 5))
            for place, row in ((0, (2, "a", 5)), (1, (1, "a", 5)), (1, (4, "a", 5)), (0, (1, "a", True)), (0, [1, "a", 5]), (1, None)):
                self.assert_refused(desk, BadRow, (place,), call, "till", place, row)

    def test_reading_rows(self):
        desk = filled_desk()
        self.assertEqual([(1, "a", 5), (3, "b", None)], [desk["till", 0], desk["till", 1]])
        for name, place, error, field in [("x", 0, NoName, "x"), ("x", 9, NoName, "x"), ("till", 2, NoRow, 2), ("till", -1, NoRow, -1)]:
            self.assert_raises(error, (field,), desk.__getitem__, (name, place))

    def test_strike(self):
        desk = filled_desk()
        self.assertIsNone(self.assert_deed(desk, desk.strike, "till", 0))
        self.assertEqual([(3, "b", None)], list(desk.book_of("till")))
        for place in (-1, 1, 5):
            self.assert_refused(desk, NoRow, (place,), desk.strike, "till", place)
        self.assert_deed(desk, desk.strike, "till", 0)
        self.assert_refused(desk, NoRow, (0,), desk.strike, "till", 0)
        self.assert_refused(desk, NoName, ("Till",), desk.strike, "Till", 0)


class DeliveriesTest(DeskCase):
    def test_deliver(self):
        desk = filled_desk()
        pages = [Page([(3, "a", 3, 8)]), Page([(3, "b", 5, 5)]), Page([(3, "a", 3, 8)])]
        mended = self.assert_deed(desk, desk.deliver, "till", pages, 0, 8)
        self.assertIs(Mended, type(mended))
        self.assertEqual(([2], [1, 0], []), (mended.left_out, mended.order, mended.gaps))
        self.assertEqual([(1, "a", 5), (3, "b", None), (3, "b", 5), (3, "a", 3)], list(desk.book_of("till")))
        # Nothing of an opening or a closing is kept.
        self.assert_deed(desk, desk.deliver, "till", pages[1:2], 0, 5)
        self.assert_deed(desk, desk.deliver, "Box 2", [], 4, 4)

    def test_gaps_that_are_allowed(self):
        pages = [Page.of([(day, "a", 1)], 10 * day) for day in (1, 2, 4)]
        desk = filled_desk()
        self.assertEqual(4, len(Mended(pages, 0, 0).gaps))
        for most in (-1, 0, 1, 3):
            self.assert_refused(desk, ManyGaps, (4,), desk.deliver, "Box 2", pages, 0, 0, most=most)
        self.assert_refused(desk, ManyGaps, (4,), desk.deliver, "Box 2", pages, 0, 0)
        for most in (4, 5, 100):
            self.assertEqual(4, len(self.assert_deed(desk, desk.deliver, "Box 2", pages, 0, 0, most=most).gaps))
        self.assertEqual(2 + 3 * 3, len(desk.book_of("Box 2")))
        # Without pages, a gap is between the opening and the closing.
        self.assert_refused(desk, ManyGaps, (1,), desk.deliver, "till", [], 0, 1)
        self.assertEqual([(0, 0, 1)], self.assert_deed(desk, desk.deliver, "till", [], 0, 1, most=1).gaps)
        self.assert_refused(desk, ManyGaps, (0,), desk.deliver, "till", [], 0, 0, most=-1)

    def test_errors_in_their_order(self):
        desk = filled_desk()
        clashing = [Page([(1, "a", 1, 1), (3, "a", 1, 2)]), Page([(2, "b", 1, 9), (4, "b", 1, 10)])]
        copied = [Page([(1, "a", 1, 1)])] * 8
        self.assert_refused(desk, NoName, ("x",), desk.deliver, "x", clashing, 0, 0)
        self.assert_refused(desk, Clash, (0, 1), desk.deliver, "till", clashing, 0, 0, most=9)
        self.assert_refused(desk, TooLarge, (7,), desk.deliver, "till", copied, 0, 0)
        self.assert_refused(desk, ManyGaps, (2,), desk.deliver, "till", copied[:1] + [Page([(1, "a", 1, 5)])], 0, 9, most=1)


class PostingsTest(DeskCase):
    def test_post(self):
        desk = filled_desk()
        batch = Batch([(3, "a", 1), (0, "a", 2), (3, "a", None)])
        reply = self.assert_deed(desk, desk.post, "till", Plan(timing="ahead"), batch)
        self.assertIs(Reply, type(reply))
        self.assertEqual(([0, 0, 0], [(0, "a", 2), (3, "a", 1), (3, "a", None)]), (list(reply), list(reply.book)))
        self.assertEqual([(0, "a", 2), (1, "a", 5), (3, "b", None), (3, "a", 1), (3, "a", None)], list(desk.book_of("till")))
        self.assertEqual(reply.store, desk.store_of("till"))
        self.assertNotEqual(Store.empty(), desk.store_of("till"))
        # The seat is taken now, and a list call that is refused is a deed all the same.
        again = self.assert_deed(desk, desk.post, "till", Plan(), batch)
        self.assertEqual([-1, -1, -1], list(again))
        self.assertEqual(5, len(desk.book_of("till")))
        empty = self.assert_deed(desk, desk.post, "till", Plan(), Batch([]))
        self.assertEqual([], list(empty))

    def test_what_is_posted_stays(self):
        desk = filled_desk()
        batch = Batch([(0, "a", 2)])
        desk.post("till", Plan(), batch)
        self.assertEqual(Batch([(0, "a", 2)]), batch)

    def test_errors_in_their_order(self):
        desk = filled_desk()
        bad = Batch([(0, "a", 1), (0, "b", 1)])
        self.assert_refused(desk, NoName, ("x",), desk.post, "x", Plan(), bad)
        self.assert_refused(desk, NoService, ("Box 2",), desk.post, "Box 2", Plan(), bad)
        self.assert_refused(desk, BadRequest, (1,), desk.post, "till", Plan(), bad)

    def test_stores_by_day(self):
        desk = Desk()
        desk.begin("x", Service("a", [[[(1, 0, 1)], [(2, 0, 1)]]]))
        desk.post("x", Plan(), Batch([(4, "a", 1), (4, "a", 1), (2, "a", 1)]))
        self.assertEqual([0, 0, 1, 0, 1], [desk.store_of("x")[day] for day in range(5)])
        self.assertEqual([2], list(desk.post("x", Plan(), Batch([(4, "a", 1)]))))


class QuestionsTest(DeskCase):
    def test_values(self):
        desk = filled_desk()
        self.assertEqual((12, 4, Frac(2, 3)), tuple(desk.value(name) for name in ("sum", "count", "share")))
        self.assertIs(Frac, type(desk.value("share")))
        self.assert_deed(desk, desk.file, "rate", RATE)
        self.assertEqual(Frac(6), desk.value("rate"))
        self.assertEqual(["sum", "count", "share", "rate"], desk.questions())
        for name in ("", "Sum", "till"):
            self.assert_raises(NoName, (name,), desk.value, name)

    def test_values_on_all_books_in_order(self):
        desk = Desk()
        desk.file("last", Report.read("last abcdef"))
        self.assertEqual(0, desk.value("last"))
        desk.begin("x")
        desk.begin("y")
        desk.enter("y", [(0, "a", 3)])
        desk.enter("x", [(5, "a", 4)])
        # The figures are added up book by book.
        self.assertEqual(7, desk.value("last"))

    def test_values_with_a_day(self):
        desk = filled_desk()
        found = []
        for day in (0, 1, 2, 3, 9999, None):
            desk.see(day)
            self.assertEqual(day, desk.day)
            found.append([desk.value("sum"), desk.value("count"), desk.value("share").text()])
        self.assertEqual([[0, 0, "0"], [5, 1, "1"], [12, 3, "1"], [12, 4, "2/3"], [12, 4, "2/3"], [12, 4, "2/3"]], found)

    def test_days(self):
        desk = filled_desk()
        depth = desk.depth
        for day in (0, 5, 9999, None, 3):
            desk.day = day
            self.assertEqual((day, depth), (desk.day, desk.depth))
            self.assertIsNone(desk.see(day))
            self.assertEqual((day, depth), (desk.day, desk.depth))
        for day in (-1, 10000, 10 ** 20, -10 ** 20, True, False):
            self.assert_refused(desk, BadDay, (day,), desk.see, day)
            self.assert_refused(desk, BadDay, (day,), setattr, desk, "day", day)
            self.assertEqual(3, desk.day)

    def test_places_and_deeds_are_about_whole_books(self):
        desk = filled_desk()
        desk.see(0)
        self.assertEqual(2, len(desk.book_of("till")))
        self.assertEqual((3, "b", None), desk["till", 1])
        desk.strike("till", 1)
        desk.enter("till", [(9, "c", 1)])
        self.assertEqual([(1, "a", 5), (9, "c", 1)], list(desk.book_of("till")))
        self.assertEqual(0, desk.value("count"))
        desk.undo()
        self.assertEqual(0, desk.day)

    def test_questions_are_replaced_in_their_place(self):
        desk = filled_desk()
        self.assertIsNone(self.assert_deed(desk, desk.file, "count", RATE))
        self.assertEqual((["sum", "count", "share"], Frac(6)), (desk.questions(), desk.value("count")))
        self.assertIsNone(self.assert_deed(desk, desk.withdraw, "sum"))
        self.assert_deed(desk, desk.file, "sum", COUNT)
        self.assertEqual((["count", "share", "sum"], 4), (desk.questions(), desk.value("sum")))
        desk.undo()
        desk.undo()
        self.assertEqual((["sum", "count", "share"], 12), (desk.questions(), desk.value("sum")))

    def test_books_that_were_told_stay(self):
        desk = filled_desk()
        book, names = desk.book_of("till"), desk.questions()
        rows = list(book)
        names.append("x")
        desk.enter("till", [(0, "a", 1)])
        desk.strike("till", 1)
        self.assertEqual((rows, ["sum", "count", "share"]), (list(book), desk.questions()))


class TogetherTest(DeskCase):
    def test_deeds_in_order(self):
        desk = filled_desk()
        deeds = [
            ("enter", "till", [(1, "b", 2)]), ("amend", "till", 1, (1, "c", 9)), ("strike", "till", 0), ("file", "count", SUM), ("file", "new", COUNT),
            ("withdraw", "sum"), ("strike", "Box 2", 1),
        ]
        self.assertIsNone(self.assert_deed(desk, desk.together, deeds))
        self.assertEqual([(1, "c", 9), (3, "b", None)], list(desk.book_of("till")))
        self.assertEqual([("count", 7), ("share", Frac(1, 2)), ("new", 3)], all_of(desk)[1])
        self.assertEqual(7, len(deeds))

    def test_no_deeds(self):
        desk = filled_desk()
        self.assert_deed(desk, desk.together, [])
        self.assert_deed(desk, desk.together, ())

    def test_deeds_that_fail(self):
        desk = filled_desk()
        good = [("enter", "till", [(0, "a", 1)]), ("withdraw", "sum"), ("strike", "till", 0)]
        for at in range(4):
            for deed, error in [
                (("enter", "x", []), NoName), (("enter", "till", [(0, "a", 1), None]), BadRow), (("amend", "till", 9, (0, "a", 1)), NoRow),
                (("amend", "till", 0, (2, "a", 1)), BadRow), (("strike", "Box 2", 2), NoRow), (("withdraw", "x"), NoName), (("strike", "x", 0), NoName),
            ]:
                deeds = [*good[:at], deed, ("else",), *good[at:]]
                self.assert_refused(desk, Refused, (at,), desk.together, deeds)
                with self.assertRaises(Refused) as caught:
                    desk.together(deeds)
                self.assertIs(error, type(caught.exception.__cause__))
            for deed in [("undo",), ("Enter", "till", []), ("", "till"), ("begin", "x"), ("post", "till", Plan(), Batch([])), ("deliver",), (None,), ("see", 3)]:
                self.assert_refused(desk, BadDeed, (at,), desk.together, [*good[:at], deed, ("strike", "x", 0)])
        # What an earlier deed makes wrong is refused, too.
        self.assert_refused(desk, Refused, (1,), desk.together, [("withdraw", "sum"), ("withdraw", "sum")])
        self.assert_refused(desk, Refused, (2,), desk.together, [("strike", "till", 0), ("strike", "till", 0), ("strike", "till", 0)])
        self.assert_refused(desk, Refused, (0,), desk.together, [("enter", "x", None), ("else",)])


class UndoTest(DeskCase):
    def test_undo_of_all_deeds(self):
        desk = Desk()
        page = Page([(3, "b", 5, 5)])
        deeds = [
            lambda: desk.begin("x", Service.last_seat()), lambda: desk.begin("y"), lambda: desk.enter("x", [(1, "a", 2), (0, "b", None)]),
            lambda: desk.file("q", COUNT), lambda: desk.amend("x", 0, (0, "c", 3)), lambda: desk.deliver("y", [page], 0, 5),
            lambda: desk.post("x", Plan(), Batch([(2, "a", 1)])), lambda: desk.file("r", SUM), lambda: desk.file("q", SHEET), lambda: desk.strike("x", 1),
            lambda: desk.withdraw("q"), lambda: desk.together([]), lambda: desk.together([("file", "q", RATE), ("strike", "y", 0)]),
        ]
        states = [all_of(desk)]
        for at, deed in enumerate(deeds):
            deed()
            states.append(all_of(desk))
            self.assertEqual(at + 1, desk.depth)
        desk.see(2)
        states_before = []
        for at in range(len(deeds)):
            desk.see(None)
            self.assertEqual(states[len(deeds) - at], all_of(desk))
            desk.see(2)
            states_before.append(desk.depth)
            self.assertIsNone(desk.undo())
            self.assertEqual(2, desk.day)
        desk.see(None)
        self.assertEqual((states[0], 0, list(range(len(deeds), 0, -1))), (all_of(desk), desk.depth, states_before))
        self.assert_refused(desk, NothingToUndo, (), desk.undo)
        self.assert_refused(desk, NothingToUndo, (), desk.undo)
        for deed in deeds:
            deed()
        self.assertEqual(states[-1], all_of(desk))

    def test_deeds_behind_an_undo(self):
        desk = filled_desk()
        depth = desk.depth
        desk.undo()
        desk.undo()
        desk.begin("third")
        self.assertEqual((depth - 1, ["till", "Box 2", "third"], ["sum"]), (desk.depth, list(desk), desk.questions()))
        desk.undo()
        desk.undo()
        self.assertEqual((depth - 3, ["till", "Box 2"], []), (desk.depth, list(desk), desk.questions()))

    def test_positions_of_names(self):
        desk = Desk()
        for name in "abc":
            desk.file(name, COUNT)
        desk.withdraw("a")
        desk.file("a", SUM)
        self.assertEqual(["b", "c", "a"], desk.questions())
        desk.undo()
        desk.undo()
        self.assertEqual(["a", "b", "c"], desk.questions())
        desk.begin("x")
        desk.undo()
        desk.begin("y")
        desk.begin("x")
        self.assertEqual(["y", "x"], list(desk))


class TrialsTest(DeskCase):
    def test_trials_that_end_by_themselves(self):
        desk = filled_desk()
        desk.see(2)
        before, depth = all_of(desk), desk.depth
        with desk.trial():
            self.assertEqual((before, 0, 2), (all_of(desk), desk.depth, desk.day))
            desk.begin("x")
            desk.enter("x", [(0, "a", 100)])
            desk.withdraw("sum")
            desk.file("sum", SUM)
            desk.see(None)
            desk.post("till", Plan(), Batch([(0, "a", 1)]))
            self.assertEqual((5, ["count", "share", "sum"], 113), (desk.depth, desk.questions(), desk.value("sum")))
        self.assertEqual((before, depth, 2), (all_of(desk), desk.depth, desk.day))
        desk.undo()
        self.assertEqual(depth - 1, desk.depth)

    def test_trials_that_an_error_leaves(self):
        desk = filled_desk()
        before, depth = all_of(desk), desk.depth
        for error in (KeyError("x"), NoName("y"), BureauError(), ZeroDivisionError()):
            with self.assertRaises(type(error)) as caught:
                with desk.trial():
                    desk.strike("till", 0)
                    desk.see(7)
                    raise error
            self.assertIs(error, caught.exception)
            self.assertEqual((before, depth, None), (all_of(desk), desk.depth, desk.day))
        with self.assertRaises(NoRow):
            with desk.trial():
                desk.strike("till", 0)
                desk.strike("till", 1)
        self.assertEqual((before, depth), (all_of(desk), desk.depth))

    def test_undo_in_a_trial(self):
        desk = filled_desk()
        before, depth = all_of(desk), desk.depth
        with desk.trial():
            self.assert_refused(desk, NothingToUndo, (), desk.undo)
            desk.strike("till", 0)
            desk.strike("till", 0)
            desk.undo()
            self.assertEqual((1, [(3, "b", None)]), (desk.depth, list(desk.book_of("till"))))
            desk.undo()
            self.assertEqual(before, all_of(desk))
            self.assert_refused(desk, NothingToUndo, (), desk.undo)
            desk.begin("x")
        self.assertEqual((before, depth), (all_of(desk), desk.depth))

    def test_nested_trials(self):
        desk = filled_desk()
        before, depth = all_of(desk), desk.depth
        with desk.trial():
            desk.begin("x")
            desk.see(1)
            inside = all_of(desk)
            with desk.trial():
                self.assertEqual(0, desk.depth)
                desk.begin("y")
                desk.see(2)
                with self.assertRaises(SameName):
                    with desk.trial():
                        desk.begin("z")
                        desk.begin("x")
                self.assertEqual((["till", "Box 2", "x", "y"], 1, 2), (list(desk), desk.depth, desk.day))
            self.assertEqual((inside, 1, 1), (all_of(desk), desk.depth, desk.day))
            desk.undo()
            self.assert_refused(desk, NothingToUndo, (), desk.undo)
        self.assertEqual((before, depth, None), (all_of(desk), desk.depth, desk.day))

    def test_trials_begin_with_the_block(self):
        desk = filled_desk()
        trial = desk.trial()
        desk.begin("x")
        depth, before = desk.depth, all_of(desk)
        with trial:
            desk.begin("y")
            self.assertEqual(1, desk.depth)
        self.assertEqual((depth, before), (desk.depth, all_of(desk)))

    def test_one_trial_behind_the_other(self):
        desk = filled_desk()
        before = all_of(desk)
        for name in "xyz":
            with desk.trial():
                desk.begin(name)
                self.assertEqual(["till", "Box 2", name], list(desk))
        self.assertEqual(before, all_of(desk))


class TriedTest(DeskCase):
    def tried(self, desk, deeds):
        before = (all_of(desk), desk.depth, desk.day)
        values = desk.tried(deeds)
        self.assertEqual(before, (all_of(desk), desk.depth, desk.day))
        return values

    def test_values_behind_the_deeds(self):
        desk = filled_desk()
        self.assertEqual([12, 4, Frac(2, 3)], self.tried(desk, []))
        self.assertEqual([14, 5, Frac(3, 4)], self.tried(desk, [("enter", "till", [(1, "a", 2)])]))
        self.assertEqual([4, Frac(2, 3), 12], self.tried(desk, [("withdraw", "sum"), ("file", "sum", SUM)]))
        self.assertEqual([12, Frac(2, 3)], self.tried(desk, [("withdraw", "count")]))
        self.assertEqual([], self.tried(desk, [("withdraw", "count"), ("withdraw", "sum"), ("withdraw", "share")]))
        self.assertEqual([], self.tried(Desk(), []))
        self.assertEqual([0], self.tried(Desk(), [("file", "x", COUNT)]))
        desk.see(1)
        self.assertEqual([5, 1, Frac(1)], self.tried(desk, [("enter", "till", [(2, "a", 2)])]))

    def test_each_is_a_deed_of_its_own(self):
        desk = filled_desk()
        strike, undo = ("strike", "till", 0), ("undo",)
        self.assertEqual([7, 3, Frac(1, 2)], self.tried(desk, [strike, strike, undo]))
        self.assertEqual([12, 4, Frac(2, 3)], self.tried(desk, [strike, strike, undo, undo]))
        self.assertEqual([7, 2, Frac(1)], self.tried(desk, [strike, undo, strike, undo, strike, strike]))

    def test_errors(self):
        desk = filled_desk()
        strike, undo = ("strike", "till", 0), ("undo",)
        for at in range(3):
            for deed, error in [
                (("strike", "till", 5), NoRow), (("enter", "x", []), NoName), (("amend", "Box 2", 0, (3, "a", 1)), BadRow), (("withdraw", "x"), NoName),
            ]:
                deeds = [*[strike, undo, strike][:at], deed, ("else",), strike]
                self.assert_refused(desk, Refused, (at,), desk.tried, deeds)
                with self.assertRaises(Refused) as caught:
                    desk.tried(deeds)
                self.assertIs(error, type(caught.exception.__cause__))
            for deed in [("begin", "x"), ("",), ("Undo",), ("post", "till", Plan(), Batch([]))]:
                self.assert_refused(desk, BadDeed, (at,), desk.tried, [*[strike, undo, strike][:at], deed, undo, undo])
        for deeds, at in [([undo], 0), ([strike, undo, undo], 2), ([undo, ("else",)], 0)]:
            self.assert_refused(desk, Refused, (at,), desk.tried, deeds)
            with self.assertRaises(Refused) as caught:
                desk.tried(deeds)
            self.assertIs(NothingToUndo, type(caught.exception.__cause__))

    def test_tried_in_a_trial(self):
        desk = filled_desk()
        with desk.trial():
            desk.strike("till", 0)
            self.assertEqual([7, 3, Frac(1, 2)], self.tried(desk, []))
            self.assert_refused(desk, Refused, (0,), desk.tried, [("undo",)])


class LinesTest(DeskCase):
    def test_lines(self):
        desk = filled_desk()
        self.assertEqual([
            "sum                                12", "count                               4", "share                             2/3",
        ], desk.lines())
        self.assertTrue(all(len(line) == 37 for line in desk.lines()))
        desk.file("sum", Report.read("times -1\nsum a"))
        desk.file("", RATE)
        desk.file("sixteen letters!", COUNT)
        desk.file("seventeen letters", COUNT)
        desk.file("rate", Rate(Report.read("times -1\nsum a"), Report.read("count abc")))
        self.assertEqual([
            "sum              " + "-12".rjust(20), "count            " + "4".rjust(20), "share            " + "2/3".rjust(20), " " * 17 + "6".rjust(20),
            "sixteen letters! " + "4".rjust(20), "seventeen letters " + "4".rjust(20), "rate             " + "-3".rjust(20),
        ], desk.lines())

    def test_long_values(self):
        desk = Desk()
        desk.begin("x")
        desk.enter("x", [(0, "a", 10 ** 15 - 1), (0, "b", 10 ** 15 - 1), (0, "c", None)])
        factor = "times -1000\n" * 6
        for word, report in (("a", Report.read(factor[:-1] + "\nsum abc")), ("b", Report.read("times 1000\ntimes 10\nsum a")), ("c", Report.read("times 1000\ntimes 100\nsum a"))):
            desk.file(word, report)
        desk.file("d", Rate(Report.read("times 1000\nsum a"), Report.read("count abc")))
        desk.file("e", Rate(Report.read("times 1000\ntimes -1000\nlast b"), Report.read("full c")))
        desk.file("f" * 20, Rate(Report.read("times 1000\ntimes -1000\nsum b"), Report.read("against abc d\nagainst abcd d\nagainst a d\nagainst a d\ncount abcdef")))
        last = 10 ** 15 - 1
        values = [str(2 * last * 10 ** 18), str(last * 10 ** 4), str(last * 10 ** 5), str(last * 1000 // 3), "0"]
        fraction = Frac(-last * 10 ** 6, desk_count(desk)).text()
        names = ["a", "b", "c", "d", "e"]
        expected = [f"{name.ljust(16)} {value.rjust(20)}" for name, value in zip(names, values)] + [f"{'f' * 20} {fraction.rjust(20)}"]
        self.assertEqual(expected, desk.lines())
        self.assertLess(37, len(desk.lines()[0]))
        self.assertIn("/", desk.lines()[5])

    def test_lines_with_a_day(self):
        desk = filled_desk()
        desk.see(1)
        self.assertEqual(["5", "1", "1"], [line.split(" ")[-1] for line in desk.lines()])
        self.assertEqual([], Desk().lines())


def desk_count(desk):
    return Report.read("against abc d\nagainst abcd d\nagainst a d\nagainst a d\ncount abcdef")(desk.book_of("x"))


class LongBooksTest(DeskCase):
    def test_books_of_200_rows_and_many_deeds(self):
        desk = Desk()
        for name in ("x", "y", "z"):
            desk.begin(name, Service.last_seat())
            desk.enter(name, [(at // 3, "abcdef"[at * at // 7 - at * at // 42 * 6], None if at // 2 * 2 == at else at) for at in range(200)])
        desk.file("sum", Report.read("fill down\nkeep last: full\nrun\nsum abc"))
        desk.file("share", SHEET)
        value = desk.value("sum")
        depth = desk.depth
        for at in range(300):
            desk.amend("x", at - at // 200 * 200, (desk["x", at - at // 200 * 200][0], "f", at))
        self.assertEqual(depth + 300, desk.depth)
        with desk.trial():
            for _ in range(150):
                desk.strike("y", 0)
            desk.together([("strike", "z", 0) for _ in range(200)])
            self.assertEqual((50, 0, 151), (len(desk.book_of("y")), len(desk.book_of("z")), desk.depth))
        for _ in range(300):
            desk.undo()
        self.assertEqual((value, depth), (desk.value("sum"), desk.depth))


if __name__ == "__main__":
    unittest.main()
