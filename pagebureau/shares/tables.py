"""Tables: a count for each mark."""

from pagebureau.base.errors import BadAmount
from pagebureau.base.integers import is_plain_integer
from pagebureau.base.marks import Marks, check_mark


def _check_count(mark, amount):
    if not is_plain_integer(amount) or not 0 <= amount <= Table.MOST:
        raise BadAmount(mark, amount)


class Table:
    """A count for each of the six marks; only `put` and item assignment change it."""

    MOST = 1000000000000000000

    def __init__(self, **counts):
        for name in counts:
            check_mark(name)
        self._counts = [counts.get(mark, 0) for mark in Marks.ALL]
        for mark, amount in zip(Marks.ALL, self._counts):
            _check_count(mark, amount)

    @classmethod
    def of(cls, *books):
        marks = [row[1] for book in books for row in book]
        counts = {mark: marks.count(mark) for mark in Marks.ALL}
        return cls(**counts)

    def __getitem__(self, at):
        check_mark(at)
        return self._counts[Marks.ALL.find(at)]

    def put(self, mark, amount):
        check_mark(mark)
        _check_count(mark, amount)
        self._counts[Marks.ALL.find(mark)] = amount

    def __setitem__(self, at, worth):
        self.put(at, worth)

    def __iter__(self):
        return iter(self._counts)

    def __add__(self, other):
        if not isinstance(other, Table):
            return NotImplemented
        counts = {mark: self[mark] + other[mark] for mark in Marks.ALL}
        return Table(**counts)

    def __mul__(self, other):
        if not is_plain_integer(other):
            return NotImplemented
        counts = {mark: self[mark] * other for mark in Marks.ALL}
        return Table(**counts)

    def __rmul__(self, other):
        return self * other

    def __and__(self, other):
        if not isinstance(other, Marks):
            return NotImplemented
        counts = {mark: self[mark] for mark in other}
        return Table(**counts)

    def __eq__(self, other):
        return isinstance(other, Table) and self._counts == other._counts

    @property
    def total(self):
        return sum(self._counts)

    @property
    def present(self):
        return Marks("".join([mark for mark in Marks.ALL if self[mark] > 0]))


def tables_with(total, marks):
    letters = list(marks)
    many = len(letters)
    for some in _counts_with(total, many):
        counts = {mark: count for mark, count in zip(letters, some)}
        yield Table(**counts)


def _counts_with(total, many):
    """A generator of all lists of so many counts with this total, ascending."""
    if many == 0 and total == 0:
        yield []
    if many == 1:
        yield [total]
    if many > 1:
        fewer = many - 1
        for count in range(total + 1):
            left = total - count
            for others in _counts_with(left, fewer):
                yield [count, *others]
