import random
import unittest

from posting_walk import random_grid, random_requests, random_state, random_told, store_of
from support import BureauCase

from pagebureau.base.errors import BadGrid, BadMarks, BadRequest, BadStore
from pagebureau.base.fracs import Frac
from pagebureau.base.marks import Marks
from pagebureau.posting.batches import Batch
from pagebureau.posting.plans import Plan
from pagebureau.posting.promises import broken, faults
from pagebureau.posting.services import Service, Store, single_call

NO_REQUESTS = (
    None, (), (0, "b"), (0, "b", 1, 2), [0, "b", 1], (-1, "b", 1), (10000, "b", 1), (0, "a", 1), (0, "g", 1), (0, "bd", 1), (0, "", 1),
    (0, "b", True), (True, "b", 1), (0, "b", 10 ** 40), (0, "b", "1"), ("0", "b", 1), "0b1",
)


def grid_of(many, shared_states, own_states, entry=(0, 0, 0)):
    return [[[entry] * many for _ in range(own_states)] for _ in range(shared_states)]


class ServiceTest(BureauCase):
    def test_services_of_all_sizes(self):
        source = random.Random(961)
        for letters in ("a", "f", "ab", "bf", "abc", "adf"):
            for shared_states in (1, 2, 3, 4):
                for own_states in (1, 2, 3):
                    grid = random_grid(source, len(letters), shared_states, own_states)
                    service = Service(letters, grid)
                    self.assertEqual((letters, shared_states, own_states), (service.letters, service.shared_states, service.own_states))
                    for shared in range(shared_states):
                        for own in range(own_states):
                            for k, mark in enumerate(letters):
                                answer, after = single_call(service, Store(shared, {4: own}), (4, mark, None))
                                entry = grid[shared][own][k]
                                self.assertEqual(entry[0], answer)
                                self.assertEqual((shared, own) if answer < 0 else entry[1:], (after.shared, after[4]))

    def test_letters(self):
        for letters in ("", "-", "ba", "aa", "g", "A", "abcd", "abcdef", "a b", " a", "ab\n", None, Marks("a"), ["a"], 0):
            self.assert_raises(BadMarks, (letters,), Service, letters, grid_of(1, 1, 1))
            self.assert_raises(BadMarks, (letters,), Service, letters, [])

    def test_grids_of_wrong_shapes(self):
        entry = (0, 0, 0)
        for letters, grid in [
            ("a", []), ("a", grid_of(1, 5, 1)), ("a", grid_of(1, 1, 4)), ("a", [[]]), ("a", [[], []]), ("a", grid_of(0, 1, 1)),
            ("a", grid_of(2, 1, 1)), ("ab", grid_of(1, 2, 2)), ("abc", grid_of(4, 2, 2)), ("a", grid_of(1, 2, 2) + grid_of(1, 1, 1)),
            ("a", grid_of(1, 2, 1) + grid_of(1, 1, 3)), ("ab", [[[entry] * 2, [entry]]]), ("ab", [[[entry] * 2], [[entry] * 3]]),
            ("ab", [[[entry] * 2, []]]), ("a", grid_of(1, 1, 1) + [[]]), ("a", grid_of(1, 4, 3) + grid_of(1, 1, 3)),
        ]:
            self.assert_raises(BadGrid, ((),), Service, letters, grid)

    def test_wrong_shapes_come_before_wrong_entries(self):
        self.assert_raises(BadGrid, ((),), Service, "a", grid_of(1, 1, 2, (0, 9, 9)) + grid_of(1, 1, 1))

    def test_entries_at_the_bounds_and_beyond(self):
        for good in ((10 ** 9, 0, 0), (-10 ** 9, 3, 2), (0, 3, 0), (-1, 0, 2)):
            Service("abc", grid_of(3, 4, 3, good))
        for bad in (
            (10 ** 9 + 1, 0, 0), (-10 ** 9 - 1, 0, 0), (0, 4, 0), (0, 0, 3), (0, -1, 0), (0, 0, -1), (True, 0, 0), (0, False, 0), (0, 0, True),
            (None, 0, 0), ("0", 0, 0), (0, 0), (0, 0, 0, 0), (0, None, 0), [0, 0, 0], None, (Frac(), 0, 0),
        ):
            self.assert_raises(BadGrid, ((0, 0, 0),), Service, "abc", grid_of(3, 4, 3, bad))
            for shared, own, k in ((0, 0, 0), (0, 2, 1), (1, 0, 2), (3, 2, 2), (2, 1, 0)):
                grid = grid_of(3, 4, 3)
                grid[shared][own][k] = bad
                self.assert_raises(BadGrid, ((shared, own, k),), Service, "abc", grid)

    def test_the_first_wrong_entry(self):
        grid = grid_of(2, 3, 2)
        for shared, own, k in ((2, 0, 0), (1, 1, 1), (1, 1, 0), (1, 0, 1), (0, 1, 0)):
            grid[shared][own][k] = (0, 3, 0)
            self.assert_raises(BadGrid, ((shared, own, k),), Service, "ab", grid)

    def test_the_last_seat(self):
        service = Service.last_seat()
        self.assertEqual(("a", 2, 2), (service.letters, service.shared_states, service.own_states))
        for shared in (0, 1):
            for own in (0, 1):
                store = Store(shared, {3: own})
                answer, after = single_call(service, store, (3, "a", 1))
                if (shared, own) == (0, 0):
                    self.assertEqual((0, Store(1, {})), (answer, after))
                else:
                    self.assertEqual((-1, store), (answer, after))
        self.assertIsNot(service, Service.last_seat())

    def test_what_the_last_seat_would_do_if_a_refused_request_were_applied(self):
        # With "ahead" the second request is applied in a store in which it is refused.
        batch = Batch([(0, "a", 1), (0, "a", 2)])
        self.assertEqual(Store(1, {}), Plan(timing="ahead")(Service.last_seat(), Store.empty(), batch).store)

    def test_what_was_passed_may_be_changed(self):
        grid = grid_of(1, 1, 1, (5, 0, 0))
        service = Service("a", grid)
        grid[0][0][0] = (6, 0, 0)
        grid[0].append([(7, 0, 0)])
        grid.append(grid[0])
        self.assertEqual(5, single_call(service, Store.empty(), (0, "a", None))[0])
        self.assertEqual((1, 1), (service.shared_states, service.own_states))
        self.assertEqual(5, single_call(Service("a", tuple(((((5, 0, 0),),),))), Store.empty(), (0, "a", 1))[0])


class StoreTest(BureauCase):
    def test_states(self):
        store = Store(2, {5: 1, 0: 2, 7: 0})
        self.assertEqual((2, 1, 2, 0, 0), (store.shared, store[5], store[0], store[7], store[6]))
        for day in (-1, 10000, 10 ** 30):
            self.assertEqual(0, store[day])
        self.assertEqual((0, 0), (Store.empty().shared, Store.empty()[0]))
        self.assertEqual((9, 8), (Store(9, {-3: 8}).shared, Store(9, {-3: 8})[-3]))

    def test_equality(self):
        self.assertTrue(Store.empty() == Store(0, {}))
        self.assertTrue(Store(1, {3: 0}) == Store(1, {}))
        self.assertTrue(Store(1, {3: 2, 9: 0}) == Store(1, {4: 0, 3: 2}))
        self.assertFalse(Store(1, {}) == Store(0, {}))
        self.assertFalse(Store(1, {3: 1}) == Store(1, {3: 2}))
        self.assertFalse(Store(1, {3: 1}) == Store(1, {4: 1}))
        self.assertFalse(Store(0, {-5: 1}) == Store(0, {}))
        self.assert_unequal_to_others(Store.empty(), [(0, {}), {}, 0, None, Service.last_seat()])

    def test_what_was_passed_may_be_changed(self):
        states = {3: 1}
        store = Store(0, states)
        states[3] = 2
        states[4] = 1
        self.assertEqual((1, 0), (store[3], store[4]))


class CallTest(BureauCase):
    SERVICE = Service("bd", [[[(1, 1, 1), (2, 0, 1)], [(-1, 1, 1), (3, 1, 0)]], [[(-7, 0, 0), (4, 0, 1)], [(0, 1, 1), (-2, 0, 0)]]])

    def test_calls_one_after_another(self):
        source = random.Random(962)
        for _ in range(200):
            told = random_told(source, 3, 4, 3)
            state = random_state(source, told)
            store = store_of(state)
            for request in random_requests(source, told.letters, 8):
                before = (store.shared, [store[day] for day in range(4)])
                answer, after = single_call(told.service, store, request)
                expected, state = told.called(state, request)
                self.assertEqual(expected, answer)
                self.assertEqual(store_of(state), after)
                # A store never changes.
                self.assertEqual(before, (store.shared, [store[day] for day in range(4)]))
                store = after

    def test_a_refusal_changes_nothing(self):
        store = Store(1, {0: 0, 5: 1})
        answer, after = single_call(self.SERVICE, store, (0, "b", 9))
        self.assertEqual((-7, store), (answer, after))

    def test_amounts_are_not_looked_at(self):
        for amount in (None, 0, -5, 10 ** 40 - 1):
            self.assertEqual((1, Store(1, {2: 1})), single_call(self.SERVICE, Store.empty(), (2, "b", amount)))

    def test_other_days_keep_their_states(self):
        _, after = single_call(self.SERVICE, Store(0, {0: 1, 9999: 1}), (4, "d", 1))
        self.assertEqual(Store(0, {0: 1, 4: 1, 9999: 1}), after)

    def raisers(self, store, request):
        batch, plan = Batch([request]), Plan()
        yield lambda: single_call(self.SERVICE, store, request)
        yield lambda: plan(self.SERVICE, store, batch)
        yield lambda: broken("daily", self.SERVICE, plan, store, batch)
        yield lambda: faults(self.SERVICE, plan, store, batch)

    def assert_refused(self, error, fields, store, request):
        for call in self.raisers(store, request):
            self.assert_raises(error, fields, call)

    def test_shared_states_out_of_range_come_first(self):
        for shared in (-1, 2, 10 ** 20, True, None, "0"):
            for states in ({}, {-1: 0}, {3: 9}):
                for request in ((0, "b", 1), None, (0, "a", 1)):
                    self.assert_refused(BadStore, (-1,), Store(shared, states), request)

    def test_the_least_day_that_is_wrong_comes_next(self):
        for states, day in [
            ({-1: 0}, -1), ({10000: 0}, 10000), ({5: 2}, 5), ({5: -1}, 5), ({9: 2, 7: 3, 8: 9}, 7), ({-4: 1, -9: 0, 3: 7}, -9),
            ({10000: 1, 9999: 1}, 10000), ({0: 0, 1: True}, 1), ({3: None}, 3), ({10 ** 20: 0}, 10 ** 20),
        ]:
            for request in ((0, "b", 1), None, (0, "a", 1)):
                self.assert_refused(BadStore, (day,), Store(1, states), request)

    def test_requests_come_last(self):
        for request in NO_REQUESTS:
            self.assert_refused(BadRequest, (0,), Store(1, {0: 1, 9999: 0}), request)
        for request in ((0, "b", 1), (9999, "d", None), (0, "b", -10 ** 40 + 1)):
            for call in self.raisers(Store(0, {0: 1, 9999: 1}), request):
                call()

    def test_the_first_request_that_is_wrong(self):
        good = (0, "b", 1)
        for request in NO_REQUESTS:
            for place in (0, 1, 4):
                batch = Batch([good] * place + [request, good, None])
                for plan in (Plan(), Plan(size=1, refusal="stop", order="reversed")):
                    self.assert_raises(BadRequest, (place,), plan, self.SERVICE, Store.empty(), batch)
                    self.assert_raises(BadRequest, (place,), faults, self.SERVICE, plan, Store.empty(), batch)

    def test_stores_are_looked_at_for_empty_batches_too(self):
        self.assert_raises(BadStore, (-1,), Plan(), self.SERVICE, Store(2, {}), Batch([]))
        self.assert_raises(BadStore, (4,), Plan(), self.SERVICE, Store(0, {4: 2}), Batch([]))

    def test_a_store_after_a_call_keeps_all_days_that_were_given(self):
        one = Service("a", [[[(0, 0, 0)]]])
        two = Service("a", grid_of(1, 1, 2, (0, 0, 1)))
        # The state 1 of day 3 fits the second service only.
        _, after = single_call(two, Store(0, {5: 0}), (3, "a", 1))
        self.assert_raises(BadStore, (3,), single_call, one, after, (0, "a", 1))
        after = Plan()(two, Store(0, {7: 1}), Batch([(3, "a", 1)])).store
        self.assertEqual((1, 1), (after[7], after[3]))


if __name__ == "__main__":
    unittest.main()
