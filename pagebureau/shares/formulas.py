"""Formulas: sums of shares, sifted, divided, and averaged over sets of marks.

A formula is held as a list of terms, which are tuples (factor, part, whole, groupings). The
value of a term on a table is 0 if the whole has the count 0. Else it is the factor times
the count of the part, divided by the count of the whole, and for each grouping also by the
number of sets in it that have a count above 0. Sets of marks are strings of their letters.
"""

from pagebureau.base.errors import BadDivisor, TooLarge
from pagebureau.base.fracs import Frac
from pagebureau.base.integers import is_plain_integer
from pagebureau.base.marks import Marks

_MOST = 12


def check_size(size):
    """Raises TooLarge with a size, also a sum of sizes, that is above 12."""
    if size > _MOST:
        raise TooLarge(size)


def _both(letters, others):
    return "".join([letter for letter in letters if letter in others])


def _grouping_of(groups):
    """The sets that count in a grouping; a single one is no grouping.

    Each whole is in a set of each of its groupings. So a single set has a count above 0
    wherever the whole has, and nothing is divided.
    """
    counting = [group for group in groups if group != ""]
    return counting if len(counting) > 1 else []


def _sifted_groupings(groupings, letters):
    sifted = [_grouping_of([_both(group, letters) for group in grouping]) for grouping in groupings]
    return [grouping for grouping in sifted if grouping]


def _grouped(terms, grouping):
    """The terms, divided by one more grouping, unless it is none."""
    if not grouping:
        return terms
    return [(factor, part, whole, [*groupings, grouping]) for factor, part, whole, groupings in terms]


def _sifted(terms, letters):
    """The terms on tables that are sifted by these letters, without terms that are always 0."""
    found = []
    for factor, part, whole, groupings in terms:
        part_left, whole_left = _both(part, letters), _both(whole, letters)
        if part_left != "" and whole_left != "":
            found.append((factor, part_left, whole_left, _sifted_groupings(groupings, letters)))
    return found


def _count_of(counts, letters):
    return sum([counts[letter] for letter in letters])


def _divisor_of(counts, groupings):
    """The product of the numbers of sets in the groupings that have a count above 0."""
    divisor = 1
    for grouping in groupings:
        divisor = divisor * len([group for group in grouping if _count_of(counts, group) > 0])
    return divisor


def _value_of(term, counts):
    factor, part, whole, groupings = term
    below = _count_of(counts, whole)
    if below == 0:
        return Frac()
    return factor * Frac(_count_of(counts, part), below * _divisor_of(counts, groupings))


class Formula:
    """A formula; it never changes. It is made by `share`, `zero`, the operators and `mean` only."""

    def __init__(self, size, terms):
        check_size(size)
        self.size = size
        self._terms = list(terms)

    @staticmethod
    def share(part, whole):
        return Formula(1, _sifted([(Frac(1), part.letters, whole.letters, [])], Marks.ALL))

    @classmethod
    def zero(cls):
        return cls(0, [])

    def terms(self):
        """The list of the terms."""
        return list(self._terms)

    def __add__(self, other):
        if not isinstance(other, Formula):
            return NotImplemented
        return Formula(self.size + other.size, self._terms + other._terms)

    def __sub__(self, other):
        if not isinstance(other, Formula):
            return NotImplemented
        return self + -other

    def __neg__(self):
        return self * -1

    def __mul__(self, other):
        if not is_plain_integer(other):
            return NotImplemented
        return Formula(self.size, [(factor * other, *more) for factor, *more in self._terms])

    def __rmul__(self, other):
        return self * other

    def __floordiv__(self, other):
        if not is_plain_integer(other):
            return NotImplemented
        if other == 0:
            raise BadDivisor()
        return Formula(self.size, [(factor.over(other), *more) for factor, *more in self._terms])

    def __and__(self, other):
        if not isinstance(other, Marks):
            return NotImplemented
        return Formula(self.size, _sifted(self._terms, other.letters))

    def mean(self, *groups):
        size = self.size * len(groups)
        check_size(size)
        grouping = _grouping_of([group.letters for group in groups])
        terms = [term for group in groups for term in _sifted(self._terms, group.letters)]
        return Formula(size, _grouped(terms, grouping))

    def __call__(self, table):
        counts = {mark: count for mark, count in zip(Marks.ALL, list(table))}
        return Frac.added([_value_of(term, counts) for term in self._terms])
