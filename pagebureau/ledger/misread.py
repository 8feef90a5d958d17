"""Misread lines and spare pages: what would give a heap an order without gaps."""

from pagebureau.base.integers import is_plain_integer, written
from pagebureau.ledger.heaps import fewest
from pagebureau.ledger.lots import Lots
from pagebureau.ledger.pages import Page

_DIGITS = "0123456789"


def one_digit_apart(first, second):
    if not is_plain_integer(first) or not is_plain_integer(second):
        return False
    one, two = written(abs(first)), written(abs(second))
    if (first < 0) != (second < 0) or len(one) != len(two):
        return False
    return len([at for at in range(len(one)) if one[at] != two[at]]) == 1


def _misread(number):
    """The list of all integers that are one digit apart from a number."""
    if number is None:
        return []
    sign = -1 if number < 0 else 1
    digits = written(abs(number))
    changed = [
        sign * int(digits[:at] + digit + digits[at + 1:])
        for at in range(len(digits)) for digit in _DIGITS
    ]
    return [other for other in changed if one_digit_apart(number, other)]


def _changed_lines(line):
    """The lines that differ from this one in a digit of the amount or of the balance."""
    day, mark, amount, balance = line
    amounts = [(day, mark, other, balance) for other in _misread(amount)]
    return amounts + [(day, mark, amount, other) for other in _misread(balance)]


def _has_order_without_gaps(pages, opening, closing):
    # Such an order is a ring with the link back from the closing to the opening; the days
    # are looked at only if there is any such ring, since that takes longer.
    ring = Lots.of(*pages) + Lots([(closing, opening)])
    return abs(ring) == 0 and fewest(pages, opening, closing) == 0


def _with_item(items, at, item):
    return [*items[:at], item, *items[at + 1:]]


def _readings_at(pages, at, lines, opening, closing):
    """The list of those of some lines that may stand in place of a page of one line."""
    return [
        line for line in lines
        if _has_order_without_gaps(_with_item(pages, at, Page([line])), opening, closing)
    ]


def readings(lines, opening, closing):
    pages = [Page([line]) for line in lines]
    found = []
    for at, line in enumerate(lines):
        fitting = _readings_at(pages, at, _changed_lines(line), opening, closing)
        found.extend([(at, reading) for reading in sorted(set(fitting))])
    return found


def spares(pages, opening, closing):
    return [
        number for number in range(len(pages))
        if _has_order_without_gaps([*pages[:number], *pages[number + 1:]], opening, closing)
    ]
