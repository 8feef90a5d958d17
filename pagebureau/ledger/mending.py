"""Heaps made good: copies are left out, and the rest is brought into an order."""

from pagebureau.base.errors import NoRow, TooLarge
from pagebureau.base.rows import Book
from pagebureau.ledger.heaps import check_clashes, fewest, gaps
from pagebureau.ledger.orders import first_order, has_one_order

_MOST_COPIES = 6


def copies(pages):
    return [number for number in range(len(pages)) if pages[number] in pages[:number]]


def _others(pages, left_out):
    return [number for number in range(len(pages)) if number not in left_out]


def _subsets(numbers):
    """The list of all ascending lists of some of these ascending numbers."""
    found = [[]]
    for number in numbers:
        found = found + [[*some, number] for some in found]
    return found


def _best_subset(pages, opening, closing, always, loose):
    """The list of the loose pages that are left out beside those that always are."""
    keys = []
    for some in _subsets(loose):
        rest = [pages[number] for number in _others(pages, always + some)]
        keys.append((fewest(rest, opening, closing), len(some), tuple(some)))
    return list(sorted(set(keys))[0][2])


def lean(pages, opening, closing):
    doubles = copies(pages)
    check_clashes(pages, _others(pages, doubles))
    loose = [number for number in doubles if pages[number].first_day == pages[number].last_day]
    if len(loose) > _MOST_COPIES:
        raise TooLarge(len(loose))
    always = [number for number in doubles if number not in loose]
    return sorted(set(always + _best_subset(pages, opening, closing, always, loose)))


class Mended:
    """A heap made good; it never changes."""

    def __init__(self, pages, opening, closing):
        self.left_out = lean(pages, opening, closing)
        numbers = _others(pages, self.left_out)
        rest = [pages[number] for number in numbers]
        order = first_order(rest, opening, closing)
        self.order = [numbers[at] for at in order]
        self.gaps = gaps(rest, opening, closing, order)
        self.book = Book([row for at in order for row in rest[at].rows()])
        self._sure = has_one_order(rest, opening, closing)
        self._sources = [(number, at) for number in self.order for at in range(len(pages[number]))]

    @property
    def sure(self):
        return self._sure

    def source(self, place):
        if not 0 <= place < len(self._sources):
            raise NoRow(place)
        return self._sources[place]
