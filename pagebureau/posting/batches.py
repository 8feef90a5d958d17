"""Batches: requests that are posted together, and their chunks."""

from pagebureau.base.errors import BadPlan, NoRow
from pagebureau.base.integers import is_plain_integer

_LARGEST = 40


def is_size(thing):
    """Whether the thing is a size of chunks."""
    return is_plain_integer(thing) and 0 <= thing <= _LARGEST


def cut_places(count, size):
    """The lists of the places in each chunk of so many requests."""
    width = count if size == 0 else size
    places = list(range(count))
    return [places[start:start + width] for start in range(0, count, max(1, width))]


class Batch:
    """Requests in any order, which are not checked; only `+=` changes it."""

    def __init__(self, requests):
        self._requests = list(requests)

    def __len__(self):
        return len(self._requests)

    def __iter__(self):
        return iter(self._requests)

    def __contains__(self, x):
        return x in self._requests

    def __eq__(self, other):
        return isinstance(other, Batch) and self._requests == other._requests

    def __getitem__(self, at):
        if not 0 <= at < len(self._requests):
            raise NoRow(at)
        return self._requests[at]

    def __add__(self, other):
        if not isinstance(other, Batch):
            return NotImplemented
        return Batch(self._requests + other._requests)

    def __iadd__(self, other):
        if not isinstance(other, Batch):
            return NotImplemented
        self._requests = self._requests + other._requests
        return self

    def __mul__(self, other):
        if not is_plain_integer(other):
            return NotImplemented
        # An empty batch may be repeated more often than Python repeats a list.
        return Batch(self._requests * other if self._requests else [])

    def __rmul__(self, other):
        return self * other

    def __floordiv__(self, other):
        if not is_size(other):
            raise BadPlan("size")
        chunks = cut_places(len(self._requests), other)
        return [Batch([self._requests[place] for place in places]) for places in chunks]
