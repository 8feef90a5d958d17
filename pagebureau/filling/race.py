"""The race of the two amounts beside empty rows, and what parts two fillings.

The amounts above and below some empty rows that stand side by side fill them from both
ends, one row at each event. Rows between other full rows have no part in it.
"""

from pagebureau.base.marks import Marks
from pagebureau.base.rows import Book

_NEAR = ("near_above", "near_below")
_FIRST_SIDES = {"down": "above", "up": "below", "near_above": "above", "near_below": "below"}
_OTHER_SIDES = {"above": "below", "below": "above"}
# The mark of a row at which no fill step looks.
_ANY_MARK = "a"


def _side_of(way, turn):
    """The side for which a turn is; in a near step they alternate."""
    side = _FIRST_SIDES[way]
    return side if way not in _NEAR or turn & 1 == 0 else _OTHER_SIDES[side]


def _next_turn(step, turn):
    """The turn after this one, None behind the last turn of a step."""
    way, rows, _ = step
    if rows is None:
        return 1 - turn if way in _NEAR else 0
    turns = 2 * rows if way in _NEAR else rows
    return turn + 1 if turn + 1 < turns else None


def _tried_turns(step, turn):
    """The turns that are tried from this one on.

    A turn that fails, fails again when it is for the same side, so there are at most two.
    """
    following = _next_turn(step, turn)
    return [turn] if following is None or step[0] not in _NEAR else [turn, following]


def _event_in(step, turn, edges):
    """A pair of the first side with a turn that succeeds and the next turn, None if there is none."""
    for tried in _tried_turns(step, turn):
        side = _side_of(step[0], tried)
        if edges[side] is not None and edges[side] not in step[2]:
            return side, _next_turn(step, tried)
    return None


def next_event(filling, spot, above, below):
    edges = {"above": above, "below": below}
    steps = list(filling)
    at, turn = spot
    while at < len(steps):
        if steps[at][0] == "drop":
            return "dropped", (at, 0)
        event = _event_in(steps[at], turn, edges)
        if event is not None:
            side, following = event
            return side, (at + 1, 0) if following is None else (at, following)
        at = at + 1
        turn = 0
    return "left", (at, 0)


def _marks_of(first, second):
    """The marks in any halt, and the least other one, if there is one."""
    halting = Marks("".join([mark for step in [*first, *second] for mark in step[2] if mark in Marks.ALL]))
    return [*halting, *list(~halting)[:1]]


def _choices(sides, marks):
    """The list of the pairs of edges, above and below, that can be chosen for the sides of a state."""
    above, below = [marks if side is True else [side] for side in sides]
    return [(one, other) for one in above for other in below]


class Walk:
    """A walk through the states that can be reached from one start, until a choice parts the fillings.

    States with fewer events before them come first, so that the book that parts the fillings
    by this choice has as few rows as possible.
    """

    def __init__(self, first, second, start):
        self._first = first
        self._second = second
        self._marks = _marks_of(first, second)
        self.states = [start]
        # For each state the state before, the event in between, and the mark of the border that it passed.
        self._ways = {start: None}
        self._looked_at = 0
        # The edges that part the fillings, at the last state that was looked at.
        self.parting = None

    def go(self):
        """Walks to the end."""
        while self.parting is None and self._looked_at < len(self.states):
            self._look(self.states[self._looked_at])
            if self.parting is None:
                self._looked_at = self._looked_at + 1

    def _look(self, state):
        first_spot, second_spot, *sides = state
        for above, below in _choices(sides, self._marks):
            event, first_after = next_event(self._first, first_spot, above, below)
            second_event, second_after = next_event(self._second, second_spot, above, below)
            if event != second_event:
                self.parting = (above, below)
                return
            if event == "above":
                self._reach((first_after, second_after, True, below), (state, event, above))
            elif event == "below":
                self._reach((first_after, second_after, above, True), (state, event, below))

    def _reach(self, state, way):
        if state not in self._ways:
            self._ways[state] = way
            self.states.append(state)

    def _passed(self):
        """The marks of the borders that both sides pass before the choice, the last ones first."""
        passed = {"above": [], "below": []}
        way = self._ways[self.states[self._looked_at]]
        while way is not None:
            state, event, mark = way
            passed[event].append(mark)
            way = self._ways[state]
        return passed["above"], passed["below"]

    def parting_rows(self):
        """The rows of which the fillings leave different books: one is still empty at the choice.

        Each row but a full one above has the mark of the border above it, if that matters.
        """
        above, below = self.parting
        upper, lower = self._passed()
        marks = [_ANY_MARK if above is None else above, *upper][::-1]
        if above is not None:
            marks = [_ANY_MARK, *marks]
        if below is not None:
            marks = [*marks, below, *lower]
        rows = [(0, mark, None) for mark in marks]
        if above is not None:
            rows[0] = (0, marks[0], 0)
        if below is not None:
            rows[-1] = (0, marks[-1], 1)
        return rows


def _walks(first, second):
    """The walks from all starts; no state is reached from two of them."""
    starts = [((0, 0), (0, 0), above, below) for above in (None, True) for below in (None, True)]
    walks = [Walk(list(first), list(second), start) for start in starts]
    for walk in walks:
        walk.go()
    return walks


def closed_list(first, second):
    walks = _walks(first, second)
    if any([walk.parting is not None for walk in walks]):
        return None
    return [state for walk in walks for state in walk.states]


def parting_fill(first, second):
    lists = [walk.parting_rows() for walk in _walks(first, second) if walk.parting is not None]
    return Book(min(lists, key=len)) if lists else None


def alike_fills(first, second):
    return closed_list(first, second) is not None
