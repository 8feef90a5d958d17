"""Services and stores: what single calls answer, and what they change."""

from pagebureau.base.errors import BadGrid, BadMarks, BadRequest, BadStore
from pagebureau.base.integers import is_plain_integer
from pagebureau.base.marks import is_marks_text
from pagebureau.base.rows import LAST_DAY, is_row

_MOST_MARKS = 3
_MOST_SHARED = 4
_MOST_OWN = 3
_MOST_ANSWER = 10 ** 9


def _is_below(thing, count):
    """Whether the thing numbers one of so many."""
    return is_plain_integer(thing) and 0 <= thing < count


def _has_right_lengths(grid, many_marks):
    """Whether each of the lists in a grid has as many entries as it should."""
    if not 1 <= len(grid) <= _MOST_SHARED:
        return False
    own_states = len(grid[0])
    if not 1 <= own_states <= _MOST_OWN or any([len(rows) != own_states for rows in grid]):
        return False
    return all([len(entries) == many_marks for rows in grid for entries in rows])


def _is_entry(thing, shared_states, own_states):
    if not isinstance(thing, tuple) or len(thing) != 3:
        return False
    answer, shared, own = thing
    is_answer = is_plain_integer(answer) and -_MOST_ANSWER <= answer <= _MOST_ANSWER
    return is_answer and _is_below(shared, shared_states) and _is_below(own, own_states)


def _check_grid(grid, many_marks):
    if not _has_right_lengths(grid, many_marks):
        raise BadGrid(())
    for shared, rows in enumerate(grid):
        for own, entries in enumerate(rows):
            for k, entry in enumerate(entries):
                if not _is_entry(entry, len(grid), len(rows)):
                    raise BadGrid((shared, own, k))


class Service:
    """What answers requests of some marks; it never changes."""

    def __init__(self, letters, grid):
        if not is_marks_text(letters) or letters == "-" or len(letters) > _MOST_MARKS:
            raise BadMarks(letters)
        _check_grid(grid, len(letters))
        self.letters = letters
        self.shared_states = len(grid)
        self.own_states = len(grid[0])
        self._grid = [[list(entries) for entries in rows] for rows in grid]

    @staticmethod
    def last_seat():
        return Service("a", [[[(0, 1, 0)], [(-1, 0, 1)]], [[(-1, 1, 0)], [(-1, 1, 1)]]])

    def entry(self, store, request):
        """The entry of a request in a store."""
        day, mark, _ = request
        return self._grid[store.shared][store[day]][self.letters.find(mark)]

    def takes(self, thing):
        """Whether the thing is a row of one of the marks."""
        return is_row(thing) and thing[1] in self.letters


class Store:
    """A shared state, and an own state for each day, 0 unless it is given; it never changes."""

    def __init__(self, shared, states):
        self.shared = shared
        self._states = dict(states)

    @classmethod
    def empty(cls):
        return cls(0, {})

    def __getitem__(self, at):
        return self._states.get(at, 0)

    def __iter__(self):
        raise TypeError("the own states have no end")

    def __eq__(self, other):
        return isinstance(other, Store) and self.shared == other.shared and self._set_states() == other._set_states()

    def _set_states(self):
        """A dict from the days whose own states are not 0 to these."""
        return {day: own for day, own in self._states.items() if own != 0}

    def told_states(self):
        """A dict from the days that are given to their own states."""
        return dict(self._states)

    def after(self, request, entry):
        """The store with the next states of an entry, which a request has."""
        _, shared, own = entry
        return Store(shared, {**self._states, request[0]: own})


def check_store(service, store):
    """Raises BadStore if the store does not fit the service."""
    if not _is_below(store.shared, service.shared_states):
        raise BadStore(-1)
    given = store.told_states()
    for day in sorted(set(list(given))):
        if not 0 <= day <= LAST_DAY or not _is_below(given[day], service.own_states):
            raise BadStore(day)


def check_requests(service, requests):
    """Raises BadRequest with the place of the first thing that the service does not take."""
    for place, request in enumerate(requests):
        if not service.takes(request):
            raise BadRequest(place)


def is_refusal(answer):
    """Whether the answer of a request, None if it was skipped, is a refusal."""
    return answer is not None and answer < 0


def is_done(answer):
    """Whether a request with this answer, None if it was skipped, is done."""
    return answer is not None and answer >= 0


def single_call(service, store, request):
    check_store(service, store)
    check_requests(service, [request])
    return called(service, store, request)


def called(service, store, request):
    """The answer and the store after a single call of a request that fits."""
    entry = service.entry(store, request)
    return entry[0], store.after(request, entry) if is_done(entry[0]) else store
