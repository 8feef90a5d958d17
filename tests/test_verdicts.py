import random
import unittest
from itertools import islice
from time import process_time

from posting_walk import (
    DUPLICATES, ORDERS, REFUSALS, TIMINGS, Told, all_plans, first_breach, keeps, random_grid, random_requests, random_state, random_told,
    small_requests, small_states,
)
from support import BureauCase

from pagebureau.base.errors import BadPromise
from pagebureau.posting.batches import Batch
from pagebureau.posting.plans import Plan
from pagebureau.posting.promises import PROMISES, broken
from pagebureau.posting.services import Service, Store
from pagebureau.posting.verdicts import Case, always, held, least, repairs, right_sizes, small_cases

SEAT = Told("a", [[[(0, 1, 0)], [(-1, 0, 1)]], [[(-1, 1, 0)], [(-1, 1, 1)]]])
ANY = Told("a", [[[(0, 0, 0)]]])
NO_PROMISES = ("", "Daily", None, 0, True, ["daily"])


def case_of(rows, shared=0, states=None):
    return Case(Batch(rows), Store(shared, states or {}))


def told_of(case):
    """The requests, the shared state and the own states of the batch's days of a case."""
    rows = list(case.batch)
    return rows, case.store.shared, [case.store[day] for day in sorted({row[0] for row in rows})]


class CaseTest(BureauCase):
    # Ascending, all different.
    CASES = [
        case_of([]), case_of([], 1), case_of([(3, "a", 1)]), case_of([(0, "a", None)] * 2), case_of([(0, "a", None), (0, "a", -5)]),
        case_of([(0, "a", -5), (0, "a", None)]), case_of([(0, "a", -5), (0, "a", -5)]), case_of([(0, "a", -5), (0, "a", -5)], 0, {0: 1}),
        case_of([(0, "a", -5), (0, "a", -5)], 1), case_of([(0, "a", 0), (0, "a", 0)]), case_of([(0, "b", None), (0, "a", 0)]),
        case_of([(0, "b", 0), (5, "a", 0)]), case_of([(0, "b", 0), (5, "a", 0)], 0, {5: 2}), case_of([(0, "b", 0), (5, "a", 0)], 0, {0: 1}),
        case_of([(5, "a", 0), (0, "b", 0)]), case_of([(0, "a", None)] * 3), case_of([(0, "a", None)] * 200),
    ]

    def test_order(self):
        for i, one in enumerate(self.CASES):
            for j, other in enumerate(self.CASES):
                self.assertEqual(
                    (i == j, i != j, i < j, i <= j, i > j, i >= j),
                    (one == other, one != other, one < other, one <= other, one > other, one >= other))

    def test_other_days_do_not_count(self):
        rows = [(1, "a", 1), (3, "b", 2)]
        one, other = case_of(rows, 0, {1: 2, 2: 1, 9: 1}), case_of(rows, 0, {1: 2, 0: 2, 3: 0})
        self.assertTrue(one == other)
        self.assertTrue(one <= other and other <= one)
        self.assertFalse(one < other or other < one)

    def test_other_things(self):
        self.assert_unequal_to_others(self.CASES[2], [Batch([(3, "a", 1)]), Store.empty(), None, 0, [(3, "a", 1)]])

    def test_fields(self):
        batch, store = Batch([(0, "a", 1)]), Store(1, {0: 2})
        case = Case(batch, store)
        batch += Batch([(1, "b", 2)])
        self.assertEqual((Batch([(0, "a", 1)]), store), (case.batch, case.store))
        told = case.batch
        told += batch
        self.assertEqual(1, len(case.batch))
        self.assertIsNot(case.batch, case.batch)


class SmallCasesTest(BureauCase):
    def test_complete_and_ascending(self):
        source = random.Random(991)
        for letters, shared_states, own_states in [("a", 1, 1), ("c", 2, 2), ("bd", 1, 3), ("ab", 4, 1), ("ace", 2, 2), ("abc", 4, 3)]:
            told = Told(letters, random_grid(source, len(letters), shared_states, own_states))
            cases = list(small_cases(told.service))
            expected = [
                (requests, state[0], [state[1][day] for day in sorted(state[1])])
                for requests in small_requests(letters) for state in small_states(told, requests)
            ]
            self.assertEqual(expected, [told_of(case) for case in cases])
            self.assertTrue(all(one < other for one, other in zip(cases, cases[1:])))
            for case in islice(cases, 50):
                self.assertEqual((Case, Batch, Store), (type(case), type(case.batch), type(case.store)))

    def test_days_that_are_not_in_the_batch(self):
        for case in small_cases(SEAT.service):
            days = {row[0] for row in case.batch}
            self.assertFalse(any(case.store[day] for day in range(-2, 12) if day not in days))

    def test_the_batch_of_a_case_is_new_each_time(self):
        for case in islice(small_cases(SEAT.service), 3):
            batch = case.batch
            batch += batch
            self.assertEqual(2, len(case.batch))
        self.assertEqual([1, 2], [row[2] for row in next(iter(small_cases(SEAT.service))).batch])


class LeastTest(BureauCase):
    def test_the_first_small_case_that_breaks(self):
        source = random.Random(992)
        kept = 0
        for plan in all_plans((0, 1, 2)):
            told = random_told(source)
            for promise in PROMISES:
                case, breach = least(promise, told.service, plan), first_breach(promise, told, plan)
                if breach is None:
                    kept += 1
                    self.assertIsNone(case)
                    self.assertIn(promise, held(told.service, plan))
                else:
                    requests, state = breach
                    self.assertEqual(case_of(requests, *state), case)
                    self.assertTrue(broken(promise, told.service, plan, case.store, case.batch))
                    self.assertNotIn(promise, held(told.service, plan))
        self.assertGreater(kept, 100)

    def test_some_cases(self):
        self.assertIsNone(least("sequential", SEAT.service, Plan()))
        self.assertEqual(
            ([(0, "a", 1), (0, "a", 2)], 0, [0]), told_of(least("truthful", SEAT.service, Plan(timing="ahead"))))
        # By day, the book is the same, but the seat goes to another day.
        self.assertEqual(
            ([(1, "a", 1), (0, "a", 2)], 0, [0, 0]), told_of(least("sequential", SEAT.service, Plan(order="by_day"))))

    def test_what_small_cases_do_not_break_is_kept(self):
        source = random.Random(993)
        plans = all_plans((0, 1, 2, 3, 4))
        for _ in range(150):
            told, plan = random_told(source), source.choice(plans)
            for promise in held(told.service, plan):
                for _ in range(25):
                    requests = random_requests(source, told.letters, 7)
                    self.assertTrue(keeps(promise, told, plan, random_state(source, told), requests))


class HeldTest(BureauCase):
    def test_some_plans(self):
        self.assertEqual(PROMISES, held(SEAT.service, Plan()))
        self.assertEqual(("serial", "truthful"), held(SEAT.service, Plan(order="reversed")))
        self.assertEqual((), held(SEAT.service, Plan(timing="ahead")))
        self.assertEqual(("daily", "serial", "truthful"), held(ANY.service, Plan(order="reversed")))
        self.assertEqual(PROMISES, held(SEAT.service, Plan(timing="ahead", size=1)))
        self.assertIs(tuple, type(held(SEAT.service, Plan())))

    def test_always_is_held_for_the_last_seat_service(self):
        for plan in all_plans((0, 1, 2, 7)):
            self.assertEqual(held(Service.last_seat(), plan), always(plan))

    def test_what_is_always_held_is_held_for_every_service(self):
        source = random.Random(994)
        for plan in all_plans((0, 1, 2)):
            for _ in range(2):
                told = random_told(source, 2, 2, 2)
                self.assertLessEqual(set(always(plan)), set(held(told.service, plan)))


class RightSizesTest(BureauCase):
    def test_sizes_that_keep(self):
        source = random.Random(995)
        for _ in range(25):
            told, plan = random_told(source), source.choice(all_plans((0, 5)))
            for promise in PROMISES:
                sizes = [size for size in range(1, 7) if promise in held(told.service, plan.changed(size=size))]
                for most in (0, 1, 2, 3, 4, 6):
                    self.assertEqual([size for size in sizes if size <= most], right_sizes(promise, told.service, plan, most))

    def test_greatest_sizes(self):
        for promise in PROMISES:
            self.assertEqual(list(range(1, 41)), right_sizes(promise, SEAT.service, Plan(), 40))
            self.assertEqual([1], right_sizes(promise, SEAT.service, Plan(timing="ahead", size=7), 40))
            self.assertEqual([1], right_sizes(promise, SEAT.service, Plan(timing="ahead"), 1))
            self.assertEqual([], right_sizes(promise, SEAT.service, Plan(), 0))

    def test_larger_sizes_are_like_3(self):
        # Held against random batches, not against small cases.
        source = random.Random(996)
        for _ in range(40):
            told, plan = random_told(source), source.choice(all_plans((0,)))
            for promise in PROMISES:
                for size in right_sizes(promise, told.service, plan, 8)[2:]:
                    requests = random_requests(source, told.letters, 12)
                    self.assertTrue(keeps(promise, told, plan.changed(size=size), random_state(source, told), requests))


class RepairsTest(BureauCase):
    VALUES = {"order": ORDERS, "duplicates": DUPLICATES, "size": (0, 1), "timing": TIMINGS, "refusal": REFUSALS}

    def changes_of(self, plan):
        for option, values in self.VALUES.items():
            yield from [plan.changed(**{option: value}) for value in values if value != getattr(plan, option)]

    def test_plans_that_differ_in_one_option(self):
        source = random.Random(997)
        for _ in range(25):
            told, plan = random_told(source), source.choice(all_plans((0, 1, 2, 40)))
            for promise in PROMISES:
                expected = [other for other in self.changes_of(plan) if promise in held(told.service, other)]
                found = repairs(promise, told.service, plan)
                self.assertIs(list, type(found))
                self.assertEqual(expected, found)

    def test_the_told_order(self):
        self.assertEqual(
            [Plan(timing="ahead", size=1), Plan()], repairs("sequential", SEAT.service, Plan(timing="ahead")))
        self.assertEqual(
            [Plan(size=0), Plan(size=1), Plan(size=7, timing="ahead"), Plan(size=7, refusal="stop"), Plan(size=7, refusal="rollback")],
            [plan for plan in repairs("sequential", ANY.service, Plan(size=7)) if plan.order == "given"])

    def test_a_plan_that_keeps_is_no_repair_of_itself(self):
        for plan in (Plan(), Plan(size=1)):
            self.assertNotIn(plan, repairs("sequential", SEAT.service, plan))


class PromiseTest(BureauCase):
    def test_unknown_promises_come_before_anything_else(self):
        for promise in NO_PROMISES:
            self.assert_raises(BadPromise, (promise,), least, promise, SEAT.service, Plan())
            self.assert_raises(BadPromise, (promise,), right_sizes, promise, SEAT.service, Plan(), 0)
            self.assert_raises(BadPromise, (promise,), right_sizes, promise, None, None, 3)
            self.assert_raises(BadPromise, (promise,), repairs, promise, None, None)


class EndsSoonTest(BureauCase):
    def test_the_largest_services(self):
        source = random.Random(998)
        start = process_time()
        services = [Service("abc", [[[(1, 0, 0)] * 3] * 3] * 4), Service("bdf", random_grid(source, 3, 4, 3, 0))]
        for service in services:
            for plan in (Plan(), Plan(order="by_day", duplicates="newest", timing="ahead", refusal="rollback")):
                kept = held(service, plan)
                for promise in PROMISES:
                    self.assertIs(promise in kept, least(promise, service, plan) is None)
                    self.assertIs(promise in kept, 3 in right_sizes(promise, service, plan, 40))
                    self.assertLessEqual(len(repairs(promise, service, plan)), 10)
        self.assertLess(process_time() - start, 90)


if __name__ == "__main__":
    unittest.main()
