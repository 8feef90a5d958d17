"""Ways: straight steps as machines that read signs and pass signs on.

A sign is "+" where a new day begins, or a mark and "." for an empty row, or a mark and "0" for
a full row. Between two signs a machine is in a state, at first in None; beside it, it holds one
amount, and it may have been promised one: `fill up` gives the next amount to empty rows before it comes, and
guesses whether it will be near enough. For all rows of a book and their signs exactly one list
of guesses comes true.

What a machine does at a sign is told by deeds:
- ("break",): it passes on that a new day begins. ("empty", mark): it passes on an empty row.
- ("full", mark, x, held, promised): it passes on a full row; its amount is the amount of the
  sign, the held one and the promised one, each times the number that is told.
- ("hold", held, x): what it holds becomes what it held and the amount of the sign, each times
  a number.
- ("promise",): it promises an amount. ("redeem",): the amount of the sign is the promised one.
"""

from pagebureau.base.rows import Book
from pagebureau.flows.steps import Change, Fill, Keep, Run, Total
from pagebureau.keeping.keepers import is_replaced

NEW_DAY = "+"
_BREAK = ("break",)
_FORGET = ("hold", 0, 0)
_TAKE = ("hold", 0, 1)


def ways_of(step):
    """The machine of a straight step."""
    if isinstance(step, Keep):
        return KeepWays(step.keeper)
    if isinstance(step, Total):
        return TotalWays(step.mark)
    if isinstance(step, Run):
        return RunWays()
    if isinstance(step, Change):
        return ChangeWays()
    if isinstance(step, Fill) and step.limits[0] == "down":
        return DownWays(step.limits)
    if isinstance(step, Fill) and step.limits[0] == "up":
        return UpWays(step.limits)
    return RowWays(step)


def _is_full(sign):
    return sign[1] == "0"


def _passed(sign):
    """The deed that passes on the row of a sign as it is."""
    return ("full", sign[0], 1, 0, 0) if _is_full(sign) else ("empty", sign[0])


class RowWays:
    """A step that does with a book what it does with each of its rows."""

    def __init__(self, step):
        self._step = step

    def ways(self, state, sign):
        """The list of the pairs of a next state and the deeds on the way to it."""
        if sign == NEW_DAY:
            return [(state, [_BREAK])]
        left = self._step(Book([(0, sign[0], 1 if _is_full(sign) else None)]))
        return [(state, [("empty", row[1]) if row[2] is None else ("full", row[1], row[2], 0, 0) for row in left])]

    def last_deeds(self, state):
        """What is done behind the last row; None if the guesses have not come true."""
        return []


class RunWays:
    """It holds the sum so far."""

    def ways(self, state, sign):
        if sign == NEW_DAY:
            return [(state, [_BREAK])]
        if not _is_full(sign):
            return [(state, [_passed(sign)])]
        return [(state, [("hold", 1, 1), ("full", sign[0], 0, 1, 0)])]

    def last_deeds(self, state):
        return []


class ChangeWays:
    """It holds the last amount."""

    def ways(self, state, sign):
        if sign == NEW_DAY:
            return [(state, [_BREAK])]
        if not _is_full(sign):
            return [(state, [_passed(sign)])]
        return [(state, [("full", sign[0], 1, -1, 0), _TAKE])]

    def last_deeds(self, state):
        return []


def _released(state):
    """The deeds that pass on the row of a state, whose amount is held."""
    if state is None:
        return []
    return [("full", state[0], 0, 1, 0), _FORGET] if _is_full(state) else [("empty", state[0])]


class TotalWays:
    """Its state is the sign of the row of the day so far, whose amount it holds."""

    def __init__(self, mark):
        self._mark = mark

    def ways(self, state, sign):
        if sign == NEW_DAY:
            return [(None, _released(state) + [_BREAK])]
        if _is_full(sign):
            return [(f"{self._mark}0", [("hold", 1, 1)])]
        return [(f"{self._mark}." if state is None else state, [])]

    def last_deeds(self, state):
        return _released(state)


def _row_of(sign):
    return (0, sign[0], 0 if _is_full(sign) else None)


class KeepWays:
    """Its state is the sign of the row that is kept of the day so far, whose amount it holds."""

    def __init__(self, keeper):
        self._keeper = keeper

    def ways(self, state, sign):
        if sign == NEW_DAY:
            return [(None, _released(state) + [_BREAK])]
        if state is None or is_replaced(self._keeper, _row_of(state), _row_of(sign)):
            return [(sign, [_TAKE if _is_full(sign) else _FORGET])]
        return [(state, [])]

    def last_deeds(self, state):
        return _released(state)


class DownWays:
    """Its state is the number of rows behind the amount that it holds, None if it holds none.

    Without a limit the rows are not counted.
    """

    def __init__(self, limits):
        _, self._rows, self._halt = limits

    def ways(self, state, sign):
        if sign == NEW_DAY:
            return [(state, [_BREAK])]
        mark = sign[0]
        if _is_full(sign):
            return [(0, [_passed(sign), _TAKE])]
        if state is None or mark in self._halt:
            return [(None, [_passed(sign), _FORGET])]
        filled = ("full", mark, 0, 1, 0)
        if self._rows is None:
            return [(0, [filled])]
        # Behind the last row that can take the amount, it is forgotten at once.
        return [(None, [filled, _FORGET]) if state + 1 == self._rows else (state + 1, [filled])]

    def last_deeds(self, state):
        return []


class UpWays:
    """Its state is what has been guessed of the next full row.

    It is None if nothing has, 0 if it will not give its amount to the empty row before, and
    else the number of rows until it comes: then the promised amount is its own.
    """

    def __init__(self, limits):
        _, self._rows, self._halt = limits

    def ways(self, state, sign):
        if sign == NEW_DAY:
            return [(state, [_BREAK])]
        if _is_full(sign):
            return self._ways_full(state, sign)
        return self._ways_empty(state, sign)

    def _ways_full(self, state, sign):
        halts = sign[0] in self._halt
        if state is None or (state == 0 and halts):
            return [(None, [_passed(sign)])]
        return [(None, [("redeem",), _passed(sign)])] if state == 1 and not halts else []

    def _ways_empty(self, state, sign):
        halts = sign[0] in self._halt
        filled = ("full", sign[0], 0, 0, 1)
        if state is not None and state > 0:
            return [(state - 1, [filled])] if state > 1 and not halts else []
        # If the row before will not get an amount, but this row will, then it is too far away
        # for the row before, or this row halts it.
        near = [self._rows] if state == 0 and not halts else list(range(1, self._rows + 1))
        return [(0, [_passed(sign)])] + [(rows, [("promise",), filled]) for rows in near]

    def last_deeds(self, state):
        return [] if state is None or state == 0 else None
