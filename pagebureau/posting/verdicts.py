"""Verdicts: which promises plans keep, for one service or for every service.

Both follow from small cases: a plan that breaks a promise for a service does so at one of
them, and what it keeps for the last-seat service, it keeps for every service.
"""

from pagebureau.posting.batches import Batch
from pagebureau.posting.plans import OPTIONS, VALUES
from pagebureau.posting.promises import PROMISES, broken, check_promise
from pagebureau.posting.services import Service, Store

_DAYS = (0, 1)
# A small case has at most so many requests, so that larger chunks are all the same to it.
_MOST_REQUESTS = 3


def _row_key(row):
    """What rows are compared by: an empty amount counts as less than every integer."""
    day, mark, amount = row
    return (day, mark, 0, 0) if amount is None else (day, mark, 1, amount)


class Case:
    """A batch and a store; it never changes."""

    def __init__(self, batch, store):
        self._requests = list(batch)
        self.store = store

    @property
    def batch(self):
        return Batch(self._requests)

    def _key(self):
        """What cases are compared by."""
        days = sorted(set([row[0] for row in self._requests]))
        rows = [_row_key(row) for row in self._requests]
        return len(rows), rows, self.store.shared, [self.store[day] for day in days]

    def __eq__(self, other):
        return isinstance(other, Case) and self._key() == other._key()

    def __lt__(self, other):
        if not isinstance(other, Case):
            return NotImplemented
        return self._key() < other._key()

    def __le__(self, other):
        if not isinstance(other, Case):
            return NotImplemented
        return self._key() <= other._key()


def _small_batches(letters):
    """The list of the lists of requests of all small cases, ascending."""
    kinds = [(day, mark) for day in _DAYS for mark in letters]
    pairs = [[one, other] for one in kinds for other in kinds]
    triples = [[one, other, one] for one, other in pairs]
    return [
        [(day, mark, place + 1) for place, (day, mark) in enumerate(some)]
        for some in [*pairs, *triples]
    ]


def _lists_of_states(many, states):
    """All lists of so many of the states below a number, ascending."""
    found = [[]]
    for _ in range(many):
        found = [[*some, state] for some in found for state in range(states)]
    return found


def small_cases(service):
    for rows in _small_batches(service.letters):
        days = sorted(set([row[0] for row in rows]))
        for shared in range(service.shared_states):
            for states in _lists_of_states(len(days), service.own_states):
                yield Case(Batch(rows), Store(shared, dict(zip(days, states))))


def least(promise, service, plan):
    check_promise(promise)
    for case in small_cases(service):
        if broken(promise, service, plan, case.store, case.batch):
            return case
    return None


def _keeps(promise, service, plan):
    return least(promise, service, plan) is None


def held(service, plan):
    return tuple([promise for promise in PROMISES if _keeps(promise, service, plan)])


def always(plan):
    return held(Service.last_seat(), plan)


def right_sizes(promise, service, plan, most):
    check_promise(promise)
    right = [size for size in range(1, _MOST_REQUESTS + 1) if _keeps(promise, service, plan.changed(size=size))]
    larger = list(range(_MOST_REQUESTS + 1, most + 1)) if _MOST_REQUESTS in right else []
    return [size for size in right if size <= most] + larger


def _changes_of(plan):
    """The plans that differ from a plan in one option, of the sizes only 0 and 1."""
    told = plan.options()
    found = []
    for option in OPTIONS:
        for value in (0, 1) if option == "size" else VALUES[option]:
            if value != told[option]:
                changes = {option: value}
                found.append(plan.changed(**changes))
    return found


def repairs(promise, service, plan):
    check_promise(promise)
    return [changed for changed in _changes_of(plan) if _keeps(promise, service, changed)]
