import random
import unittest
from time import process_time

from filling_search import (
    DROP, event_by_turns, left_by_definition, marks_of, random_filling, random_step, small_books, spots_of, states_by_search,
)
from support import BureauCase

from pagebureau.base.rows import Book
from pagebureau.filling.fillings import Filling
from pagebureau.filling.race import alike_fills, closed_list, next_event, parting_fill

BOOKS = list(small_books())
EDGES = (None, "a", "b", "c", "f")


def event(text, spot, above, below):
    return next_event(Filling.read(text), spot, above, below)


class NextEventTest(BureauCase):
    def test_down_and_up(self):
        self.assertEqual(("above", (0, 0)), event("down", (0, 0), "a", "b"))
        self.assertEqual(("below", (0, 0)), event("up", (0, 0), "a", "b"))
        self.assertEqual(("above", (0, 1)), event("down rows 3", (0, 0), "a", None))
        self.assertEqual(("above", (0, 2)), event("down rows 3", (0, 1), "a", None))
        self.assertEqual(("above", (1, 0)), event("down rows 3", (0, 2), "a", None))
        self.assertEqual(("below", (1, 0)), event("up rows 1\ndown", (0, 0), None, "a"))
        self.assertEqual(("left", (1, 0)), event("down", (0, 0), None, "a"))
        self.assertEqual(("left", (1, 0)), event("down rows 6", (0, 2), None, "a"))
        self.assertEqual(("left", (1, 0)), event("up rows 2", (0, 1), "a", None))

    def test_near_steps_take_turns(self):
        self.assertEqual(("above", (0, 1)), event("near_above", (0, 0), "a", "b"))
        self.assertEqual(("below", (0, 0)), event("near_above", (0, 1), "a", "b"))
        self.assertEqual(("below", (0, 1)), event("near_below", (0, 0), "a", "b"))
        self.assertEqual(("above", (0, 0)), event("near_below", (0, 1), "a", "b"))
        self.assertEqual(("above", (0, 1)), event("near_above rows 1", (0, 0), "a", "b"))
        self.assertEqual(("below", (1, 0)), event("near_above rows 1", (0, 1), "a", "b"))
        self.assertEqual(("above", (1, 0)), event("near_below rows 6", (0, 11), "a", "b"))

    def test_turns_that_fail_are_passed_over(self):
        self.assertEqual(("below", (0, 0)), event("near_above", (0, 0), None, "b"))
        self.assertEqual(("above", (0, 1)), event("near_above", (0, 1), "a", None))
        self.assertEqual(("below", (0, 4)), event("near_above rows 3", (0, 2), None, "b"))
        self.assertEqual(("above", (0, 3)), event("near_above rows 3", (0, 1), "a", None))
        self.assertEqual(("left", (1, 0)), event("near_above rows 3", (0, 5), "a", None))
        self.assertEqual(("above", (1, 1)), event("near_above rows 3\ndown rows 2", (0, 5), "a", None))

    def test_marks_that_halt(self):
        self.assertEqual(("below", (0, 0)), event("near_above halt a", (0, 0), "a", "b"))
        self.assertEqual(("left", (1, 0)), event("near_above halt ab", (0, 0), "a", "b"))
        self.assertEqual(("above", (1, 0)), event("down halt a\ndown halt b", (0, 0), "a", "b"))
        self.assertEqual(("left", (2, 0)), event("down halt a\ndown halt a", (0, 0), "a", "b"))
        self.assertEqual(("above", (0, 0)), event("down halt abcde", (0, 0), "f", None))
        self.assertEqual(("left", (1, 0)), event("down halt abcdef", (0, 0), "f", "a"))

    def test_drops_and_the_end(self):
        self.assertEqual(("dropped", (0, 0)), event("drop", (0, 0), "a", "b"))
        self.assertEqual(("dropped", (1, 0)), event("down halt a\ndrop\ndown", (0, 0), "a", "b"))
        self.assertEqual(("dropped", (1, 0)), event("down\ndrop", (1, 0), None, None))
        self.assertEqual(("above", (2, 0)), event("down\ndrop\ndown", (2, 0), "a", None))
        self.assertEqual(("left", (0, 0)), event("", (0, 0), "a", "b"))
        self.assertEqual(("left", (1, 0)), event("drop", (1, 0), "a", "b"))
        self.assertEqual(("left", (3, 0)), event("down\ndrop\ndown", (2, 0), None, "a"))

    def test_each_spot_of_random_fillings(self):
        source = random.Random(911)
        for _ in range(120):
            filling = random_filling(source, 6, limits=(None, 1, 2, 6), halts=("-", "a", "bc", "abcdef", "abcde"))
            for spot in spots_of(filling):
                for above in EDGES:
                    for below in EDGES:
                        found = next_event(filling, spot, above, below)
                        self.assertEqual(event_by_turns(filling, spot, above, below), found)
                        self.assertEqual([tuple, str, tuple], [type(found), type(found[0]), type(found[1])])


class PartingCase(BureauCase):
    def assert_parted(self, first, second, count=None):
        """The two fillings are parted, by a book of so many rows; the number of its rows is told."""
        for one, other in ((first, second), (second, first)):
            book = parting_fill(one, other)
            self.assertIs(Book, type(book))
            rows = list(book)
            self.assertNotEqual(left_by_definition(one, rows), left_by_definition(other, rows))
            self.assertNotEqual(one(book), other(book))
            self.assertIn(count, (None, len(rows)))
            self.assertIs(False, alike_fills(one, other))
            self.assertIsNone(closed_list(one, other))
            count = len(rows)
        return count

    def assert_alike(self, first, second):
        for one, other in ((first, second), (second, first)):
            self.assertIsNone(parting_fill(one, other))
            self.assertIs(True, alike_fills(one, other))
            self.assertIsInstance(closed_list(one, other), list)


class PartingTest(PartingCase):
    def test_a_filling_and_itself(self):
        source = random.Random(912)
        for _ in range(100):
            filling = random_filling(source, 6)
            self.assert_alike(filling, filling)
            self.assert_alike(filling, Filling.read(filling.text()))

    def test_fillings_that_differ_in_one_thing(self):
        for first, second, count in [
            ("down", "", 2), ("down", "up", 2), ("drop", "", 1), ("down\ndrop", "down", 1), ("near_above", "near_below", 3),
            ("down rows 1", "down rows 2", 3), ("down rows 6", "down", 8), ("near_above rows 6", "near_above", 8),
            ("down halt a", "down", 2), ("down halt a", "down halt b", 2), ("down halt abcde", "down halt abcdef", 2),
            ("near_above rows 1", "near_below rows 1", 3), ("down\nup", "up\ndown", 3), ("down\ndrop", "drop\ndown", 2),
            ("down rows 2\nup rows 1", "down rows 1\nup rows 1\ndown rows 1", 4), ("down halt a\nup", "up\ndown halt a", 3),
            ("up halt a", "up halt b", 2), ("near_above", "down\nup", 4), ("near_above rows 2", "near_above rows 3", 4),
        ]:
            with self.subTest(first=first, second=second):
                self.assert_parted(Filling.read(first), Filling.read(second), count)

    def test_fillings_that_are_alike(self):
        for first, second in [
            ("down rows 2", "down rows 1\ndown rows 1"), ("down", "down\ndown rows 3"), ("down halt abcdef", ""), ("drop", "drop\ndown"),
            ("near_above rows 1", "down rows 1\nup rows 1"), ("near_above rows 2", "near_above rows 1\nnear_above rows 1"),
            ("down halt ab\ndown halt a", "down halt a"), ("drop\ndrop", "drop"), ("up halt abcdef\ndrop", "drop\nnear_below"),
            ("near_below rows 3", "up rows 1\ndown rows 1\nnear_below rows 2"), ("down\nnear_above\nup", "down\nup"),
        ]:
            with self.subTest(first=first, second=second):
                self.assert_alike(Filling.read(first), Filling.read(second))

    def test_held_against_all_small_books(self):
        source = random.Random(913)
        alike = 0
        for _ in range(250):
            first, second = random_filling(source, 3), random_filling(source, 2)
            book = parting_fill(first, second)
            found = next((some for some in BOOKS if first(some) != second(some)), None)
            if book is None:
                alike += 1
                self.assert_alike(first, second)
                self.assertIsNone(found)
            else:
                self.assert_parted(first, second, None if found is None else len(found))
                self.assertTrue(found is not None or len(book) > 3)
        self.assertGreater(alike, 10)

    def test_the_least_book_of_fillings_that_differ_in_one_step(self):
        source = random.Random(914)
        for _ in range(150):
            steps = list(random_filling(source, 3))
            changed = list(steps)
            changed.insert(source.randint(0, len(steps)), random_step(source))
            first, second = Filling(steps), Filling(changed)
            if parting_fill(first, second) is not None:
                count = self.assert_parted(first, second)
                self.assertFalse(any(first(some) != second(some) for some in BOOKS if len(some) < count))


class ClosedListTest(PartingCase):
    def test_two_empty_fillings(self):
        starts = [((0, 0), (0, 0), above, below) for above in (None, True) for below in (None, True)]
        self.assertCountEqual(starts, closed_list(Filling(), Filling()))
        self.assertCountEqual(starts, closed_list(Filling([DROP]), Filling([DROP, DROP])))

    def test_two_steps_without_limits(self):
        states = closed_list(Filling.read("down"), Filling.read("down\ndown"))
        starts = [((0, 0), (0, 0), above, below) for above in (None, True) for below in (None, True)]
        self.assertCountEqual(starts + [((0, 0), (0, 0), True, "a")], states)

    def test_marks_are_those_in_halts_and_the_least_other_one(self):
        for halt, marks in (("-", "a"), ("a", "ab"), ("b", "ab"), ("ac", "abc"), ("def", "adef"), ("abcde", "abcdef"), ("abcdef", "abcdef")):
            filling = Filling([("near_above", 2, halt)])
            states = closed_list(filling, filling)
            found = {side for state in states for side in state[2:] if isinstance(side, str)}
            # Where every mark halts, nothing is ever passed.
            self.assertEqual(set() if halt == "abcdef" else set(marks), found)

    def test_all_states_each_once(self):
        source = random.Random(915)
        lists = 0
        for _ in range(400):
            first = random_filling(source, 3)
            second = first if source.random() < 0.2 else random_filling(source, 3)
            states, parted = states_by_search(first, second)
            found = closed_list(first, second)
            if parted:
                self.assert_parted(first, second)
            else:
                lists += 1
                self.assertIs(list, type(found))
                self.assertTrue(all(type(state) is tuple for state in found))
                self.assertEqual(len(states), len(found))
                self.assertEqual(states, set(found))
        self.assertGreater(lists, 80)

    def test_a_list_that_its_reader_changes(self):
        filling = Filling.read("down halt a")
        closed_list(filling, filling).clear()
        self.assertEqual(states_by_search(filling, filling)[0], set(closed_list(filling, filling)))

    def test_marks_of_the_search(self):
        self.assertEqual(["b", "d", "a"], marks_of([("up", None, "d")], [("down", 1, "b"), DROP]))


class EndsSoonTest(PartingCase):
    def test_six_steps_with_any_limits_and_halts(self):
        source = random.Random(916)
        start = process_time()
        for limits in ((6,), (None,), (None, 6), (5, 6)):
            for halts in (("-",), ("abcdef",), ("abcde", "abcdf", "bcdef"), ("abc", "def", "ace"), ("a", "b", "c", "d", "e", "f")):
                for _ in range(6):
                    steps = [random_step(source, limits, halts, drops=False) for _ in range(6)]
                    self.assert_alike(Filling(steps), Filling(steps))
                    for other in (steps[::-1], steps[:5], [*steps[:5], DROP]):
                        if parting_fill(Filling(steps), Filling(other)) is not None:
                            self.assert_parted(Filling(steps), Filling(other))
        self.assertLess(process_time() - start, 60)

    def test_the_longest_races(self):
        for way in ("down", "up", "near_above", "near_below"):
            filling = 6 * Filling([(way, 6, "-")])
            # 36 rows are filled from one side; the next one parts them, beside a full row.
            self.assert_parted(filling, Filling([(way, None, "-")]), 38)
            shorter = Filling([*list(filling)[:5], (way, 5, "-")])
            self.assert_parted(filling, shorter, 37)


if __name__ == "__main__":
    unittest.main()
