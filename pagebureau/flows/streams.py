"""Streams: straight steps that take the rows of a book one after another.

What a step holds between two rows is a value that never changes: None at first, then
- for `keep` the row that is kept of the day so far, for `total` the row of the day so far,
- for `run` the sum so far, for `change` the last amount,
- for `fill down` a pair of the last amount and the number of rows behind it,
- for `fill up` the tuple of the empty rows that may still take an amount.
"""

from pagebureau.base.rows import Book, worth
from pagebureau.flows.steps import Change, Fill, Keep, Run, Total
from pagebureau.keeping.keepers import is_replaced


def fed(step, held, row):
    """What a step holds behind a row, and the list of the rows that it passes on."""
    if isinstance(step, Keep):
        return _fed_keep(step.keeper, held, row)
    if isinstance(step, Total):
        return _fed_total(step.mark, held, row)
    if isinstance(step, Run):
        return _fed_run(held, row)
    if isinstance(step, Change):
        return _fed_change(held, row)
    if isinstance(step, Fill) and step.limits[0] == "down":
        return _fed_down(step.limits, held, row)
    if isinstance(step, Fill) and step.limits[0] == "up":
        return _fed_up(step.limits, () if held is None else held, row)
    # All other steps do with a row what they do with a book of this row alone.
    return held, list(step(Book([row])))


def left_over(step, held):
    """The list of the rows that a step passes on when no row comes any more."""
    if held is None:
        return []
    if isinstance(step, Keep) or isinstance(step, Total):
        return [held]
    return list(held) if isinstance(step, Fill) and step.limits[0] == "up" else []


def _fed_keep(keeper, kept, row):
    if kept is None:
        return row, []
    if kept[0] != row[0]:
        return row, [kept]
    return row if is_replaced(keeper, kept, row) else kept, []


def _fed_total(mark, added, row):
    day, _, amount = row
    if added is None or added[0] != day:
        return (day, mark, amount), [] if added is None else [added]
    if amount is None:
        return added, []
    return (day, mark, worth(added[2]) + amount), []


def _fed_run(total, row):
    day, mark, amount = row
    if amount is None:
        return total, [row]
    after = worth(total) + amount
    return after, [(day, mark, after)]


def _fed_change(before, row):
    day, mark, amount = row
    if amount is None:
        return before, [row]
    return amount, [(day, mark, amount - worth(before))]


def _fed_down(limits, held, row):
    _, rows, halt = limits
    day, mark, amount = row
    if amount is not None:
        return (amount, 0), [row]
    if held is None or mark in halt or held[1] == rows:
        return None, [row]
    return (held[0], held[1] + 1), [(day, mark, held[0])]


def _fed_up(limits, waiting, row):
    _, rows, halt = limits
    amount = row[2]
    if amount is not None:
        before = [(day, mark, None if row[1] in halt else amount) for day, mark, _ in waiting]
        return (), [*before, row]
    if row[1] in halt:
        return (row,), list(waiting)
    many = len(waiting) + 1 - rows
    passed = list(waiting[:many]) if many > 0 else []
    return (*waiting[len(passed):], row), passed


def _fed_all(step, held, rows):
    """What a step holds behind some rows, and the list of the rows that it passes on."""
    found = []
    for row in rows:
        held, passed = fed(step, held, row)
        found.extend(passed)
    return held, found


class Stream:
    """The steps of a straight pipeline, taking rows one after another."""

    def __init__(self, steps, held):
        self._steps = list(steps)
        self._held = list(held)

    def take(self, row):
        """Takes a row, and returns the list of those that come out at the end."""
        return self._passed_on(0, [row])

    def _passed_on(self, first, rows):
        """The rows that come out at the end if some rows come to the step of an index."""
        for at in range(first, len(self._steps)):
            self._held[at], rows = _fed_all(self._steps[at], self._held[at], rows)
        return rows

    def twin(self):
        """A stream that has taken the same rows."""
        return Stream(self._steps, self._held)

    def end(self):
        """The list of the rows that come out at the end when no row comes any more."""
        found = []
        for at, step in enumerate(self._steps):
            found.extend(self._passed_on(at + 1, left_over(step, self._held[at])))
        return found
