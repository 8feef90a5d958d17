import random
import unittest

from keeping_search import (
    ROWS, bags_of, is_kept_up_on, is_steady_on, keepers_of, kept_by_search, kept_in_batches, kept_rows, lists_of,
    random_terms, wins,
)
from support import BureauCase

from pagebureau.keeping.asking import kept_up, lost, same_kept, steady
from pagebureau.keeping.keepers import Keeper, kept_places
from pagebureau.keeping.rules import Rule

# Rules of which each has a ring: a row beats the next one, and the last one the first.
RINGS = ["most skip, in a, full", "most skip, in abc, in ad, in be, full", "least skip, in c, empty", "in -, most skip, in ab, full"]
NAMED = "in abc, in ad, in be, full, most skip"
SIX_IN = "in abc, in ad, in be, in f, in c, in d"
LARGER = [(0, mark, amount) for mark in "abcdef" for amount in (None, 0, 1, 2)]


def random_keepers(seed, count):
    """Keepers of random rules, of rules with a ring, and of rules that part all marks."""
    source = random.Random(seed)
    rules = [random_terms(source) for _ in range(count)]
    rules += [list(Rule.read(text)) for text in [*RINGS, NAMED, SIX_IN, "-", "full", "most skip", "most stop, in a, full"]]
    for terms in rules:
        for keeper in keepers_of(terms):
            yield source, keeper


def random_list(source, most):
    return [source.choice(LARGER) for _ in range(source.randint(0, most))]


class AskingCase(BureauCase):
    def assert_one_day(self, rows):
        self.assertIs(list, type(rows))
        self.assertEqual(1, len({row[0] for row in rows}))
        kept_places(Keeper.read("over: -"), rows)


class SteadyTest(AskingCase):
    def assert_counterexample(self, keeper, count):
        found = steady(keeper)
        self.assertIs(tuple, type(found))
        rows, first, second = found
        self.assert_one_day(rows)
        self.assertEqual(count, len(rows))
        kept = [sorted(repr(rows[place]) for place in kept_by_search(keeper, rows, o)) for o in (first, second)]
        self.assertNotEqual(*kept)
        for order in (first, second):
            self.assertIs(list, type(order))
            self.assertEqual(list(range(count)), sorted(order))

    def test_the_keeper_of_point_24(self):
        for manner in ("first", "last", "over", "hold", "none"):
            self.assertIsNone(steady(Keeper.read(f"{manner}: {NAMED}")))
            self.assert_steady_on_small_lists(Keeper.read(f"{manner}: {NAMED}"))

    def test_none_is_always_steady(self):
        for text in ("-", "full", SIX_IN, *RINGS):
            self.assertIsNone(steady(Keeper.read(f"none: {text}")))

    def test_different_rows_that_are_open(self):
        for manner in ("over", "hold", "first", "last"):
            for text in ("-", "full", "full, most skip", SIX_IN, "full, most stop, in abc, in ad, in be"):
                self.assert_counterexample(Keeper.read(f"{manner}: {text}"), 2)
            self.assertIsNone(steady(Keeper.read(f"{manner}: {NAMED}, in a")))
        self.assert_counterexample(Keeper.read("over: in abc, in ad, in be, most skip"), 2)

    def test_marks_of_one_class_make_different_rows(self):
        for manner in ("over", "hold", "first", "last"):
            self.assertIsNone(steady(Keeper.read(f"{manner}: full, in abc, in ad, in be, least stop")))
            self.assert_counterexample(Keeper.read(f"{manner}: full, in abc, in ad, in b, least stop"), 2)

    def test_three_rows_that_beat_each_other_in_a_ring(self):
        text = "most skip, in abc, in ad, in be, full"
        for manner in ("over", "hold"):
            self.assert_counterexample(Keeper.read(f"{manner}: {text}"), 3)
            self.assertTrue(all(is_steady_on(Keeper.read(f"{manner}: {text}"), rows) for rows in bags_of(2)))

    def assert_steady_on_small_lists(self, keeper):
        for count in (1, 2):
            self.assertTrue(all(is_steady_on(keeper, rows) for rows in bags_of(count)))

    def test_random_keepers(self):
        for source, keeper in random_keepers(81, 60):
            found = steady(keeper)
            if found is None:
                self.assert_steady_on_small_lists(keeper)
                for _ in range(20):
                    self.assertTrue(is_steady_on(keeper, random_list(source, 5)))
            else:
                self.assertIn(len(found[0]), (2, 3))
                self.assert_counterexample(keeper, len(found[0]))
                if len(found[0]) == 3:
                    self.assert_steady_on_small_lists(keeper)

    def test_steady_keepers_on_all_lists_of_three_rows(self):
        for text in (NAMED, "in ace, in ab, in cd, empty, least stop"):
            keeper = Keeper.read(f"hold: {text}")
            self.assertIsNone(steady(keeper))
            self.assertTrue(all(is_steady_on(keeper, rows) for rows in bags_of(3, LARGER[:12])))


class LostTest(AskingCase):
    def assert_ring(self, keeper, count):
        rows = lost(keeper)
        self.assert_one_day(rows)
        self.assertEqual(count, len(rows))
        self.assertEqual([], kept_by_search(keeper, rows))

    def test_rings(self):
        for text in RINGS:
            self.assert_ring(Keeper.read(f"none: {text}"), 3)
            for manner in ("over", "hold"):
                self.assertIsNone(lost(Keeper.read(f"{manner}: {text}")))

    def test_no_rings(self):
        for text in ("-", "full", "most skip", "most stop, in a, full", NAMED, SIX_IN, "full, most skip, in a, least stop",
                     "most skip, full", "most skip, in a", "most stop, full, in a"):
            self.assertIsNone(lost(Keeper.read(f"none: {text}")))

    def test_random_keepers(self):
        for source, keeper in random_keepers(82, 150):
            found = lost(keeper)
            if found is None:
                for count in (1, 2):
                    self.assertTrue(all(kept_by_search(keeper, rows) for rows in bags_of(count)))
                for _ in range(20):
                    rows = random_list(source, 6)
                    self.assertTrue(kept_by_search(keeper, rows) or not rows)
            else:
                self.assertEqual("none", keeper.manner)
                self.assert_ring(keeper, self.shortest_ring(list(keeper.rule)))

    def shortest_ring(self, terms):
        beaten_by = {row: [other for other in LARGER if wins(terms, other, row) == 1] for row in LARGER}
        for count in range(1, len(LARGER) + 1):
            for start in LARGER:
                here = {start}
                for _ in range(count):
                    here = {other for row in here for other in beaten_by[row]}
                if start in here:
                    return count
        return None


class SameKeptTest(AskingCase):
    def assert_parted(self, first, second, count=2):
        rows = same_kept(first, second)
        self.assert_one_day(rows)
        self.assertEqual(count, len(rows))
        self.assertNotEqual(kept_rows(first, rows), kept_rows(second, rows))

    def test_the_same_keeper(self):
        for _, keeper in random_keepers(83, 20):
            self.assertIsNone(same_kept(keeper, keeper))
            self.assertIsNone(same_kept(keeper, Keeper.read(keeper.text())))

    def test_with_ranked_rules_over_is_first_and_hold_is_last(self):
        for text in ("-", "full, most skip", NAMED, SIX_IN, "in a, empty, least stop"):
            for one, two in (("over", "first"), ("hold", "last")):
                self.assertIsNone(same_kept(Keeper.read(f"{one}: {text}"), Keeper.read(f"{two}: {text}")))
                self.assertIsNone(same_kept(Keeper.read(f"{two}: {text}"), Keeper.read(f"{one}: {text}")))

    def test_first_and_last_differ_where_different_rows_are_open(self):
        self.assert_parted(Keeper.read("first: full"), Keeper.read("last: full"))
        self.assert_parted(Keeper.read("over: most skip"), Keeper.read("hold: most skip"))
        self.assertIsNone(same_kept(Keeper.read(f"first: {NAMED}"), Keeper.read(f"last: {NAMED}")))
        self.assertIsNone(same_kept(Keeper.read(f"over: {NAMED}"), Keeper.read(f"hold: {NAMED}")))

    def test_equal_rows_that_are_both_kept_count_twice(self):
        for manner in ("over", "hold", "first", "last"):
            none = Keeper.read(f"none: {NAMED}")
            rows = same_kept(Keeper.read(f"{manner}: {NAMED}"), none)
            self.assertEqual((2, 1), (len(rows), len(set(rows))))
            self.assert_parted(none, Keeper.read(f"{manner}: {NAMED}"))

    def test_other_rules_that_keep_the_same(self):
        for manner in ("over", "hold", "none"):
            for one, two in [
                ("-", "in -"), ("-", "in abcdef"), ("full", "full, empty"), ("full, most skip", "full, most stop"),
                ("in ab, in a", "in a, in ab, in b"), ("most skip", "most stop"), ("most skip, full", "full, most skip"),
            ]:
                self.assertIsNone(same_kept(Keeper.read(f"{manner}: {one}"), Keeper.read(f"{manner}: {two}")), (one, two))
            for one, two in [
                ("-", "in a"), ("full", "empty"), ("most skip, in a", "most stop, in a"), ("in a, full", "full, in a"),
                ("most skip", "least skip"), ("in abcde", "in abcd"), ("full, least stop, in f", "full, least skip, in f"),
            ]:
                self.assert_parted(Keeper.read(f"{manner}: {one}"), Keeper.read(f"{manner}: {two}"))

    def test_random_keepers(self):
        source = random.Random(84)
        small = lists_of(2)
        for _ in range(60):
            terms = random_terms(source)
            changed = list(terms)
            source.shuffle(changed)
            keepers = keepers_of(terms) + keepers_of(changed)
            first, second = source.choice(keepers), source.choice(keepers)
            if same_kept(first, second) is not None:
                self.assert_parted(first, second)
                continue
            for rows in small + [random_list(source, 6) for _ in range(50)]:
                self.assertEqual(kept_rows(first, rows), kept_rows(second, rows))


class KeptUpTest(AskingCase):
    def assert_counterexample(self, keeper, count):
        batches = kept_up(keeper)
        self.assertIs(list, type(batches))
        self.assertEqual(2, len(batches))
        rows = batches[0] + batches[1]
        self.assert_one_day(rows)
        self.assertEqual(count, len(rows))
        self.assertNotEqual(kept_rows(keeper, rows), kept_in_batches(keeper, batches))

    def test_all_manners_but_none_can_be_kept_up(self):
        for text in ("-", "full", "full, most skip", NAMED, SIX_IN):
            for manner in ("over", "hold", "first", "last"):
                self.assertIsNone(kept_up(Keeper.read(f"{manner}: {text}")))
        for text in RINGS:
            for manner in ("over", "hold"):
                self.assertIsNone(kept_up(Keeper.read(f"{manner}: {text}")))

    def test_none_where_beating_goes_on(self):
        for text in ("-", "full, most skip", NAMED, SIX_IN, "most stop, in a, full", "in a, empty, least stop, in b"):
            self.assertIsNone(kept_up(Keeper.read(f"none: {text}")))

    def test_none_where_a_row_is_missed_that_was_left_out(self):
        for text in [*RINGS, "most skip, in a", "least skip, in a"]:
            self.assert_counterexample(Keeper.read(f"none: {text}"), 3)

    def test_random_keepers(self):
        small = [rows for count in (1, 2) for rows in lists_of(count)]
        for source, keeper in random_keepers(85, 60):
            if kept_up(keeper) is not None:
                self.assert_counterexample(keeper, 3)
                self.assertTrue(all(is_kept_up_on(keeper, rows) for rows in small))
                continue
            for _ in range(40):
                self.assertTrue(is_kept_up_on(keeper, random_list(source, 6)))

    def test_none_on_all_lists_of_three_rows(self):
        rows = [(0, mark, amount) for mark in "abc" for amount in (None, 0, 1)]
        for text in ("most skip, in a", "most skip, in ab, in a", "in a, most stop", "most stop, in a, full", "full, in ab",
                     "most skip, full", "least stop, empty", "in b, least skip, empty, in a"):
            keeper = Keeper.read(f"none: {text}")
            whole = all(is_kept_up_on(keeper, some) for some in lists_of(3, rows))
            self.assertIs(whole, kept_up(keeper) is None, text)


class EachQuestionEndsSoonTest(AskingCase):
    def test_six_in_terms_that_part_all_marks(self):
        for keeper in keepers_of(list(Rule.read(SIX_IN))):
            self.assertIs(keeper.manner == "none", steady(keeper) is None)
            self.assertIsNone(lost(keeper))
            self.assertIsNone(kept_up(keeper))
            for other in keepers_of(list(Rule.read("in f, in e, in d, in c, in b, in a"))):
                self.assertIsNotNone(same_kept(keeper, other))

    def test_many_keepers_with_six_terms(self):
        source = random.Random(87)
        for _ in range(60):
            terms = random_terms(source)[:2]
            terms += [("in", "abc"), ("most", "skip"), ("in", "ad"), ("in", "be")]
            for keeper in keepers_of(terms):
                steady(keeper)
                lost(keeper)
                kept_up(keeper)
                self.assertIsNone(same_kept(keeper, keeper))


if __name__ == "__main__":
    unittest.main()
