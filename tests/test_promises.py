import random
import unittest

from posting_walk import Told, Walked, all_plans, keeps, random_requests, random_state, random_told, single_calls, store_of
from support import BureauCase

from pagebureau.base.errors import BadPromise
from pagebureau.posting.batches import Batch
from pagebureau.posting.plans import Plan
from pagebureau.posting.promises import PROMISES, broken, faults
from pagebureau.posting.services import Service, Store

NAMES = ("sequential", "daily", "serial", "truthful")
NO_PROMISES = ("", "Daily", "daily ", "true", None, 0, True, ["daily"], ("daily",), "sequential, daily")
# The answer tells how many calls there were, up to 3.
CALLS = Told("ab", [[[(k, min(k + 1, 3), 0)] * 2] for k in range(4)])
ANY = Told("ab", [[[(0, 0, 0), (0, 0, 0)]]])
SEAT = Told("a", [[[(0, 1, 0)], [(-1, 0, 1)]], [[(-1, 1, 0)], [(-1, 1, 1)]]])


def breaks(promise, told, requests, state=(0, {}), **options):
    return broken(promise, told.service, Plan(**options), store_of(state), Batch(requests))


class BrokenTest(BureauCase):
    def test_the_names(self):
        self.assertEqual(NAMES, PROMISES)
        self.assertIs(tuple, type(PROMISES))

    def test_sequential(self):
        rows = [(0, "a", 1), (0, "b", 2), (1, "a", 3)]
        self.assertIs(False, breaks("sequential", CALLS, rows))
        self.assertIs(False, breaks("sequential", CALLS, rows, size=2))
        self.assertIs(False, breaks("sequential", CALLS, rows, order="by_day"))
        self.assertIs(True, breaks("sequential", CALLS, rows, order="reversed"))
        self.assertIs(True, breaks("sequential", CALLS, rows, timing="ahead"))
        # The answers and the store are the same, but not the order of the book.
        self.assertIs(True, breaks("sequential", ANY, rows, order="reversed"))
        self.assertIs(False, breaks("sequential", ANY, rows[1:], order="reversed"))

    def test_daily(self):
        rows = [(0, "a", 1), (0, "b", 2), (0, "a", 3)]
        self.assertIs(False, breaks("daily", ANY, rows, order="reversed"))
        self.assertIs(True, breaks("daily", CALLS, rows, order="reversed"))
        # A duplicate is not entered.
        self.assertIs(True, breaks("daily", ANY, rows, duplicates="first"))
        self.assertIs(True, breaks("daily", ANY, [(0, "a", 1), (0, "a", 1)], duplicates="first"))
        self.assertIs(False, breaks("daily", ANY, [(0, "a", 1), (0, "b", 1)], duplicates="first"))

    def test_serial(self):
        rows = [(0, "a", 1), (0, "b", 2), (0, "a", 3)]
        for order in ("given", "reversed", "by_day"):
            self.assertIs(False, breaks("serial", CALLS, rows, order=order))
            self.assertIs(False, breaks("serial", CALLS, rows, order=order, size=2))
        self.assertIs(True, breaks("serial", CALLS, rows, timing="ahead"))
        self.assertIs(True, breaks("serial", CALLS, rows, duplicates="last"))

    def test_truthful(self):
        rows = [(0, "a", 1), (1, "a", 2)]
        for refusal in ("continue", "stop", "rollback"):
            self.assertIs(False, breaks("truthful", SEAT, rows, refusal=refusal))
        self.assertIs(True, breaks("truthful", SEAT, rows, timing="ahead"))
        # A duplicate that counts as done is called once more.
        self.assertIs(True, breaks("truthful", SEAT, [(0, "a", 1)] * 2, duplicates="first"))
        self.assertIs(False, breaks("truthful", ANY, [(0, "a", 1)] * 2, duplicates="first"))

    def test_every_plan_held_against_single_calls(self):
        source = random.Random(981)
        found = {promise: set() for promise in NAMES}
        for plan in all_plans():
            for _ in range(6):
                told = random_told(source)
                state = random_state(source, told)
                requests = random_requests(source, told.letters, 5, (0, 1))
                for promise in NAMES:
                    is_broken = broken(promise, told.service, plan, store_of(state), Batch(requests))
                    self.assertIs(not keeps(promise, told, plan, state, requests), is_broken)
                    found[promise].add(is_broken)
        self.assertEqual([{True, False}] * 4, list(found.values()))

    def test_unknown_promises_come_before_anything_else(self):
        for promise in NO_PROMISES:
            self.assert_raises(BadPromise, (promise,), broken, promise, Service.last_seat(), Plan(), Store(9, {}), Batch([None]))

    def test_nothing_is_changed(self):
        batch, store = Batch([(0, "a", 1), (0, "a", 2)]), Store.empty()
        for promise in NAMES:
            broken(promise, SEAT.service, Plan(timing="ahead"), store, batch)
        self.assertEqual((Batch([(0, "a", 1), (0, "a", 2)]), Store(0, {})), (batch, store))


def word_of(single, listed):
    done = (single >= 0, listed is not None and listed >= 0)
    return {(True, False): "left", (False, True): "extra"}.get(done, "wrong")


class FaultsTest(BureauCase):
    def faults_of(self, told, requests, state=(0, {}), **options):
        return faults(told.service, Plan(**options), store_of(state), Batch(requests))

    def test_words(self):
        rows = [(0, "a", 1), (1, "a", 2)]
        self.assertEqual([], self.faults_of(SEAT, rows))
        self.assertEqual([(0, "left"), (1, "extra")], self.faults_of(SEAT, rows, order="reversed"))
        self.assertEqual([(1, "extra")], self.faults_of(SEAT, rows, timing="ahead"))
        self.assertEqual([(0, "left")], self.faults_of(SEAT, rows, refusal="rollback"))
        self.assertEqual([(1, "wrong")], self.faults_of(SEAT, rows, (1, {}), refusal="stop"))
        self.assertEqual([(0, "wrong"), (1, "wrong")], self.faults_of(CALLS, rows, order="reversed"))
        self.assertEqual([(0, "wrong"), (2, "wrong")], self.faults_of(CALLS, [(0, "a", 1)] * 3, order="reversed"))
        self.assertEqual([], self.faults_of(SEAT, []))

    def test_refusals_that_differ(self):
        told = Told("ab", [[[(-1, 0, 0), (0, 1, 0)]], [[(-2, 1, 0), (0, 1, 0)]]])
        self.assertEqual([(0, "wrong")], self.faults_of(told, [(0, "a", 1), (0, "b", 2)], order="reversed"))

    def test_every_plan_held_against_single_calls(self):
        source = random.Random(982)
        words = set()
        for plan in all_plans():
            for _ in range(6):
                told = random_told(source)
                state = random_state(source, told)
                requests = random_requests(source, told.letters, 6, (0, 1))
                listed = Walked(told, plan, state, requests).answers
                single = single_calls(told, state, requests, range(len(requests)))[0]
                expected = [(k, word_of(single[k], listed[k])) for k in range(len(requests)) if single[k] != listed[k]]
                found = faults(told.service, plan, store_of(state), Batch(requests))
                self.assertEqual(expected, found)
                self.assertTrue(all(type(pair) is tuple for pair in found))
                words.update(word for _, word in found)
        self.assertEqual({"left", "extra", "wrong"}, words)


if __name__ == "__main__":
    unittest.main()
