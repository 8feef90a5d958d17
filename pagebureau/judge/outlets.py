"""Outlets: which marks come out of straight pipelines, and which of them can come out alone.

Amounts do not matter for this, only which rows are full. A stop is a tuple of what states the
steps are in, and signs lead from stop to stop. A new day is a sign of its own here: where no
row comes behind it, nothing comes out that would not come out without it.
"""

from pagebureau.base.marks import Marks
from pagebureau.flows.steps import Against, Change, Rename, Run, Times, Total
from pagebureau.judge.longest import trimmed, with_an_end
from pagebureau.judge.machines import representatives, signs_of
from pagebureau.judge.ways import NEW_DAY, ways_of

# The sign behind the last row.
_END = "-"


def _writes_a_mark(step):
    return isinstance(step, Rename) or isinstance(step, Against) or isinstance(step, Total)


def _marks_apart(pipeline):
    """A dict from the marks to those that stand for them; a mark that a step writes stands alone.

    So whatever comes of a mark, the like comes of those that it stands for.
    """
    return representatives([pipeline], [Marks(step.mark) for step in pipeline if _writes_a_mark(step)])


def _changes_amounts_only(step):
    return isinstance(step, Run) or isinstance(step, Change) or isinstance(step, Times)


class Gate:
    """What a step passes on at signs, in each of its states."""

    def __init__(self, step, known):
        self._ways = ways_of(step)
        self._known = known
        self._known_courses = {}

    def courses(self, state, signs):
        """The list of the pairs of a state behind some signs, and the tuple of the signs that are passed on."""
        if (state, signs) not in self._known_courses:
            found = self._at_sign(state, signs[0]) if len(signs) == 1 else self._along(state, signs)
            self._known_courses[state, signs] = found
        return self._known_courses[state, signs]

    def _along(self, state, signs):
        found = [(state, ())]
        for sign in signs:
            found = [
                (after, (*before, *passed))
                for middle, before in found for after, passed in self.courses(middle, (sign,))
            ]
        return found

    def _at_sign(self, state, sign):
        if sign == _END:
            deeds = self._ways.last_deeds(state)
            return [] if deeds is None else [(None, tuple(self._passed(deeds) + [_END]))]
        return [(after, tuple(self._passed(deeds))) for after, deeds in self._ways.ways(state, sign)]

    def _passed(self, deeds):
        """The list of the signs that deeds pass on."""
        signs = []
        for deed in deeds:
            if deed[0] == "break":
                signs.append(NEW_DAY)
            elif deed[0] == "empty":
                signs.append(f"{self._known[deed[1]]}.")
            elif deed[0] == "full":
                signs.append(f"{self._known[deed[1]]}0")
        return signs


def _marks_in(signs):
    """The marks of the rows among some signs, a string."""
    return "".join([sign[0] for sign in signs if sign != NEW_DAY and sign != _END])


def _reached(links):
    """The list of the stops to which a way leads from the first one."""
    waiting = [0]
    found = {0: True}
    at = 0
    while at < len(waiting):
        stop = waiting[at]
        at = at + 1
        for after, _ in links[stop]:
            if after not in found:
                found[after] = True
                waiting.append(after)
    return waiting


class Outlet:
    """All that can come out of a straight pipeline.

    For each stop there is the list of its links, pairs of a next stop and the marks that come
    out on the way, and the list of what can come out at the end; marks are told by strings.
    """

    def __init__(self, pipeline):
        self._known = _marks_apart(pipeline)
        self._gates = [Gate(step, self._known) for step in pipeline if not _changes_amounts_only(step)]
        start = tuple([None for _ in self._gates])
        self._stops = [start]
        self._numbers = {start: 0}
        self._ends = []
        links = []
        signs = signs_of(sorted(set(list(self._known.values()))))
        while len(links) < len(self._stops):
            stop = self._stops[len(links)]
            links.append(self._links_from(stop, signs))
            self._ends.append([marks for _, marks in self._passages(stop, _END)])
        self._links = trimmed(links, self._ends)

    def _links_from(self, stop, signs):
        found = {(self._number(after), marks): True for sign in signs for after, marks in self._passages(stop, sign)}
        return list(found)

    def _number(self, stop):
        if stop not in self._numbers:
            self._numbers[stop] = len(self._stops)
            self._stops.append(stop)
        return self._numbers[stop]

    def _passages(self, stop, sign):
        """The list of the pairs of a stop behind a sign, and the marks that come out."""
        found = [((), (sign,))]
        for gate, state in zip(self._gates, stop):
            found = [
                ((*before, after), passed)
                for before, signs in found for after, passed in gate.courses(state, signs)
            ]
        return [(after, _marks_in(signs)) for after, signs in found]

    def _marks_of(self, letters):
        """The set of the marks for which some letters stand."""
        return Marks("".join([mark for mark in Marks.ALL if self._known[mark] in letters]))

    def coming(self):
        """The set of the marks that come out."""
        passed = [marks for links in self._links for _, marks in links]
        last = [marks for ends in self._ends for marks in ends]
        return self._marks_of(sorted(set([mark for marks in [*passed, *last] for mark in marks])))

    def alone(self):
        """The set of the marks of which one row can come out, and no other one."""
        silent = [[link for link in links if link[1] == ""] for links in self._links]
        before = _reached(silent)
        behind = with_an_end(silent, [[marks for marks in ends if marks == ""] for ends in self._ends])
        passed = [marks for stop in before for after, marks in self._links[stop] if after in behind]
        last = [marks for stop in before for marks in self._ends[stop]]
        return self._marks_of([marks for marks in [*passed, *last] if len(marks) == 1])
