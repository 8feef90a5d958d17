import random
import unittest

from keeping_search import (
    ROWS, keepers_of, kept_by_search, kept_in_batches, kept_rows, lists_of, random_terms,
)
from support import BureauCase
from test_rows import BAD_ROWS
from test_rules import NO_TEXTS

from pagebureau.base.errors import BadManner, BadOrder, BadRow, BadText
from pagebureau.base.marks import Marks
from pagebureau.base.rows import Book
from pagebureau.keeping.keepers import Keeper, keep_up, kept_along, kept_places
from pagebureau.keeping.rules import Rule

MANNERS = ("over", "hold", "none", "first", "last")


def random_rows(source, most, days=3):
    return [
        (source.randrange(days), source.choice("abcdef"), source.choice([None, None, 0, 1, 2, -5]))
        for _ in range(source.randint(0, most))
    ]


def random_keepers(seed, count):
    source = random.Random(seed)
    for _ in range(count):
        for keeper in keepers_of(random_terms(source)):
            yield source, keeper


class KeeperTest(BureauCase):
    def test_manners(self):
        self.assertEqual(MANNERS, Keeper.MANNERS)
        for manner in MANNERS:
            rule = Rule.read("full, most skip")
            keeper = Keeper(manner, rule)
            self.assertEqual((manner, rule), (keeper.manner, keeper.rule))
            self.assertEqual(MANNERS, keeper.MANNERS)

    def test_manners_that_there_are_not(self):
        for manner in ("", "Over", "over ", "under", "overhold", "first:", None, True, 0, 1, ("over",), ["over"], Marks("a")):
            for rule in (Rule([]), Rule.read("most skip")):
                self.assert_raises(BadManner, (manner,), Keeper, manner, rule)

    def test_manners_for_ranked_rules_only(self):
        for text in ("most skip", "least stop, full", "in a, most stop", "most skip, full, most skip"):
            for manner in MANNERS[:3]:
                self.assertEqual(manner, Keeper(manner, Rule.read(text)).manner)
            for manner in MANNERS[3:]:
                self.assert_raises(BadManner, (manner,), Keeper, manner, Rule.read(text))
                self.assert_raises(BadManner, (manner,), Keeper.read, f"{manner}: {text}")

    def test_texts_are_read_back(self):
        for _, keeper in random_keepers(71, 100):
            text = keeper.text()
            self.assertEqual(f"{keeper.manner}: {keeper.rule.text()}", text)
            self.assertEqual(keeper, Keeper.read(text))
            self.assertEqual(text, Keeper.read(text).text())
        self.assertEqual("over: -", Keeper("over", Rule([])).text())
        self.assertEqual([], list(Keeper.read("over: -").rule))

    def test_texts_without_a_colon_and_a_space(self):
        for text in ("", "over", "over:", "over:full", "over :full", ":", "over full", "over:\nfull", "over:full:full"):
            self.assert_raises(BadText, (0,), Keeper.read, text)

    def test_texts_without_the_text_of_a_rule(self):
        for text in NO_TEXTS:
            for manner in ("over", "none", "first", "under", ""):
                self.assert_raises(BadText, (0,), Keeper.read, f"{manner}: {text}")
        self.assert_raises(BadText, (0,), Keeper.read, "over: full: full")
        self.assert_raises(BadText, (0,), Keeper.read, "over: over: full")

    def test_texts_with_a_wrong_manner(self):
        for manner in ("", "under", "Over", " over", "over ", "over:", "over\n", "over full", ":", "a:b"):
            self.assert_raises(BadManner, (manner,), Keeper.read, f"{manner}: full")
        self.assert_raises(BadManner, ("first",), Keeper.read, "first: most skip")

    def test_straight(self):
        for manner in MANNERS:
            self.assertIs(manner != "none", Keeper.read(f"{manner}: in ab, full, in c, empty").straight)
            self.assertIs(manner != "none", Keeper.read(f"{manner}: -").straight)
            self.assertIs(False, Keeper.read(f"{manner}: full, most skip").straight)
            self.assertIs(False, Keeper.read(f"{manner}: full, in a, least stop").straight)

    def test_equal_keepers(self):
        keeper = Keeper.read("over: full")
        self.assertIs(True, keeper == Keeper("over", Rule([("full",)])))
        self.assertIs(False, keeper == Keeper.read("hold: full"))
        self.assertIs(False, keeper == Keeper.read("over: full, full"))
        self.assert_unequal_to_others(keeper, ("over: full", keeper.rule, None, 0, ("over", keeper.rule)))

    def test_the_book_of_the_kept_rows(self):
        for source, keeper in random_keepers(72, 60):
            book = Book.of(random_rows(source, 12))
            rows = list(book)
            kept = keeper(book)
            self.assertIs(Book, type(kept))
            self.assertEqual([rows[place] for place in kept_by_search(keeper, rows)], list(kept))
            self.assertEqual(rows, list(book))
            self.assertEqual(Book(), keeper(Book()))


class KeptPlacesTest(BureauCase):
    ROWS = [(0, "a", 3), (0, "b", 3), (0, "c", None), (0, "d", 5), (0, "e", 5), (0, "f", 1)]

    def kept(self, text, rows=None, order=None):
        return kept_places(Keeper.read(text), self.ROWS if rows is None else rows, order)

    def test_each_manner(self):
        for rule, expected in [
            ("full, most skip", [[3], [4], [3, 4], [3], [4]]),
            ("empty, least stop", [[2], [2], [2], [2], [2]]),
            ("in bc", [[1], [2], [1, 2], [1], [2]]),
            ("-", [[0], [5], [0, 1, 2, 3, 4, 5], [0], [5]]),
            ("full, least skip, in f", [[5], [5], [5], [5], [5]]),
        ]:
            for manner, places in zip(MANNERS, expected):
                self.assertEqual(places, self.kept(f"{manner}: {rule}"))

    def test_each_manner_with_a_rule_that_is_not_ranked(self):
        rows = [(0, "a", None), (0, "a", 0), (0, "b", 1)]
        # Each row is beaten by the next one, and the last by the first.
        for at in range(3):
            turned = rows[at:] + rows[:at]
            self.assertEqual([[2], [2], []], [self.kept(f"{m}: most skip, in a, full", turned) for m in MANNERS[:3]])
            back = turned[::-1]
            self.assertEqual([[2], [2], []], [self.kept(f"{m}: most skip, in a, full", back) for m in MANNERS[:3]])
        self.assertEqual([2], self.kept("over: most stop", [(0, "a", 5), (0, "a", None), (0, "b", 7)]))
        self.assertEqual([0], self.kept("over: most stop", [(0, "a", 5), (0, "a", None), (0, "b", 3)]))
        self.assertEqual([2], self.kept("hold: most stop", [(0, "a", 5), (0, "a", None), (0, "b", 3)]))
        self.assertEqual([0, 1], self.kept("none: most stop", [(0, "a", 5), (0, "a", None), (0, "b", 3)]))

    def test_no_rows_and_one_row(self):
        for manner in MANNERS:
            self.assertEqual([], self.kept(f"{manner}: full", []))
            self.assertEqual([], self.kept(f"{manner}: full", (), ()))
            self.assertEqual([0], self.kept(f"{manner}: full", [(9, "a", None)], [0]))

    def test_rows_of_a_day_may_stand_apart(self):
        rows = [(5, "a", 1), (2, "a", 1), (5, "b", 2), (9, "c", None), (2, "b", 0), (5, "a", 2), (9, "a", None)]
        for manner, expected in zip(MANNERS, [[1, 2, 3], [1, 5, 6], [1, 2, 3, 5, 6], [1, 2, 3], [1, 5, 6]]):
            self.assertEqual(expected, self.kept(f"{manner}: full, most skip", rows))
            self.assertEqual(expected, self.kept(f"{manner}: full, most skip", tuple(rows)))

    def test_orders(self):
        rows = [(0, "a", 1), (0, "b", 1), (1, "c", 1), (0, "c", 1)]
        self.assertEqual([2, 3], self.kept("over: full", rows, [3, 1, 0, 2]))
        self.assertEqual([0, 2], self.kept("hold: full", rows, (3, 2, 1, 0)))
        self.assertEqual([0, 1, 2, 3], self.kept("none: full", rows, [3, 1, 0, 2]))
        self.assertEqual([1, 2], self.kept("first: full", rows, [2, 1, 0, 3]))
        self.assertEqual([2, 3], self.kept("last: full", rows, [0, 1, 3, 2]))

    def test_all_small_lists(self):
        lists = [rows for count in range(3) for rows in lists_of(count)]
        for _, keeper in random_keepers(73, 12):
            for rows in lists:
                self.assertEqual(kept_by_search(keeper, rows), kept_places(keeper, rows))

    def test_random_lists_and_orders(self):
        for source, keeper in random_keepers(74, 250):
            rows = random_rows(source, 9)
            self.assertEqual(kept_by_search(keeper, rows), kept_places(keeper, rows))
            order = source.sample(range(len(rows)), len(rows))
            copies = list(rows), list(order)
            self.assertEqual(kept_by_search(keeper, rows, order), kept_places(keeper, rows, order))
            self.assertEqual(copies, (rows, order))

    def test_with_ranked_rules_over_is_first_and_hold_is_last(self):
        source = random.Random(75)
        ranked = 0
        while ranked < 150:
            rule = Rule(random_terms(source))
            if rule.ranked:
                ranked += 1
                rows = random_rows(source, 9)
                for one, two in (("over", "first"), ("hold", "last")):
                    self.assertEqual(kept_places(Keeper(one, rule), rows), kept_places(Keeper(two, rule), rows))

    def test_things_that_are_no_rows(self):
        keeper = Keeper.read("none: full")
        for thing in BAD_ROWS:
            for at in (0, 2):
                rows = [(3, "a", 1), (1, "b", 1)][:at] + [thing, thing]
                self.assert_raises(BadRow, (at,), kept_places, keeper, rows)
                self.assert_raises(BadRow, (at,), kept_places, keeper, rows, [7, 7])

    def test_wrong_orders(self):
        rows = [(3, "a", 1), (1, "b", 1), (3, "c", 1)]
        for order, at in [
            ([], 0), ([0], 1), ([1, 0], 2), ([0, 1, 1], 2), ([0, 0, 1], 1), ([0, 3, 1], 1), ([-1, 0, 1], 0), ([0, 1, 2, 2], 3),
            ([0, 1, 2, 3], 3), ([0, 1, True], 2), ([False, 1, 2], 0), ([0, None, 2], 1), ([0, 1, "2"], 2), ([[0], 1, 2], 0),
            ([0, 1, 2.0], 2), ([2, 2, 9], 1), ([2, 9, 2], 1),
        ]:
            for manner in MANNERS:
                self.assert_raises(BadOrder, (at,), kept_places, Keeper.read(f"{manner}: full"), rows, order)
        self.assert_raises(BadOrder, (0,), kept_places, Keeper.read("over: -"), [], [0])

    def test_two_hundred_rows(self):
        rows = [(k // 100, "abcdef"[k % 6], k % 7) for k in range(200)]
        for manner in MANNERS:
            for text in ("-", "in -, in -, in -, full, full, full", "full, most skip"):
                keeper = Keeper.read(f"{manner}: {text}")
                places = kept_places(keeper, rows)
                self.assertEqual(kept_by_search(keeper, rows), places)
                self.assertEqual(places, list(kept_along(keeper, rows))[-1])
                self.assertEqual(places, keep_up(keeper, [[row] for row in rows]))


class KeptAlongTest(BureauCase):
    def test_after_each_row(self):
        self.assertEqual([], list(kept_along(Keeper.read("over: -"), [])))
        rows = [(1, "a", 1), (0, "b", 5), (1, "c", 2), (1, "d", 2)]
        self.assertEqual([[0], [0, 1], [1, 2], [1, 2]], list(kept_along(Keeper.read("over: full, most skip"), rows)))
        self.assertEqual([[0], [0, 1], [1, 2], [1, 3]], list(kept_along(Keeper.read("last: full, most skip"), tuple(rows))))

    def test_random_lists(self):
        for source, keeper in random_keepers(76, 120):
            rows = random_rows(source, 9)
            expected = [kept_by_search(keeper, rows[:count]) for count in range(1, len(rows) + 1)]
            self.assertEqual(expected, list(kept_along(keeper, rows)))

    def test_all_rows_are_looked_at_first(self):
        for thing in BAD_ROWS:
            found = []
            with self.assertRaises(BadRow) as caught:
                for places in kept_along(Keeper.read("over: -"), [(0, "a", 1), (0, "a", 1), thing, thing]):
                    found.append(places)
            self.assertEqual((2, []), (caught.exception.place, found))

    def test_lists_that_are_yielded_are_new(self):
        rows = [(0, "a", 1), (1, "a", 1), (2, "a", 1)]
        for manner in MANNERS:
            found = []
            for places in kept_along(Keeper.read(f"{manner}: -"), rows):
                found.append(list(places))
                places.clear()
            self.assertEqual([[0], [0, 1], [0, 1, 2]], found)


class KeepUpTest(BureauCase):
    def test_no_batches_and_empty_ones(self):
        for manner in MANNERS:
            keeper = Keeper.read(f"{manner}: full")
            self.assertEqual([], keep_up(keeper, []))
            self.assertEqual([], keep_up(keeper, ()))
            self.assertEqual([], keep_up(keeper, [[], (), []]))
            self.assertEqual([0], keep_up(keeper, [[], [(0, "a", 1)], []]))

    def test_places_count_through_all_batches(self):
        batches = [[(1, "a", 1), (0, "a", 5)], [], [(1, "b", 2), (1, "c", 2)], [(0, "d", None), (2, "a", 0)]]
        for manner, expected in zip(MANNERS, [[1, 2, 5], [1, 3, 5], [1, 2, 3, 5], [1, 2, 5], [1, 3, 5]]):
            keeper = Keeper.read(f"{manner}: full, most skip")
            self.assertEqual(expected, keep_up(keeper, batches))
            self.assertEqual(expected, keep_up(keeper, tuple(tuple(batch) for batch in batches)))

    def test_rows_that_are_left_out_beat_nothing_later(self):
        keeper = Keeper.read("none: most skip, in a, full")
        high, low, empty = (0, "b", 1), (0, "a", 0), (0, "a", None)
        self.assertEqual([], keep_up(keeper, [[high, low, empty]]))
        self.assertEqual([2], keep_up(keeper, [[high, low], [empty]]))
        self.assertEqual([2], keep_up(keeper, [[low, high], [], [empty]]))
        self.assertEqual([2], keep_up(keeper, [[empty, high], [low]]))

    def test_random_batches(self):
        for source, keeper in random_keepers(77, 200):
            batches = [random_rows(source, 4, 2) for _ in range(source.randint(0, 4))]
            rows = [row for batch in batches for row in batch]
            places = keep_up(keeper, batches)
            self.assertEqual(sorted(set(places)), places)
            self.assertEqual(self.by_search(keeper, batches), places)
            self.assertEqual([rows[place] for place in places], kept_in_batches(keeper, batches))

    def by_search(self, keeper, batches):
        """The places by keeping, batch by batch, from lists of rows alone."""
        rows = [row for batch in batches for row in batch]
        left, count = [], 0
        for batch in batches:
            left += range(count, count + len(batch))
            count += len(batch)
            left = [left[at] for at in kept_by_search(keeper, [rows[place] for place in left])]
        return left

    def test_wrong_rows_come_before_anything_is_kept(self):
        keeper = Keeper.read("over: full")
        for thing in BAD_ROWS:
            self.assert_raises(BadRow, (0,), keep_up, keeper, [[thing]])
            self.assert_raises(BadRow, (3,), keep_up, keeper, [[ROWS[0], ROWS[1]], [], [ROWS[2], thing], [thing]])

    def test_batches_are_not_changed(self):
        batches = [[(0, "a", 1)], [(0, "b", 2)]]
        self.assertEqual([1], keep_up(Keeper.read("over: full, most skip"), batches))
        self.assertEqual([[(0, "a", 1)], [(0, "b", 2)]], batches)

    def test_one_batch_is_the_whole_list(self):
        for source, keeper in random_keepers(78, 60):
            rows = random_rows(source, 8)
            self.assertEqual(kept_places(keeper, rows), keep_up(keeper, [rows]))
            self.assertEqual(kept_rows(keeper, rows), [rows[place] for place in keep_up(keeper, [rows])])


if __name__ == "__main__":
    unittest.main()
