"""Moves: how far a late or a doubled row can move a figure.

A stop is a tuple of a place in the web and its tally before the change. Behind it, it is a
tuple of the place and the tally of the book, and of those of the changed book. Both read the
same rows behind the change. A step from stop to stop adds to the change of the figure.
"""

from pagebureau.base.errors import BadBounds, BadWay, NotPlain
from pagebureau.base.integers import is_plain_integer
from pagebureau.flows.steps import Change, Run, Total
from pagebureau.judge.growth import check_squared
from pagebureau.judge.letters import book_of_rows, mark_classes
from pagebureau.judge.longest import Longest, trimmed
from pagebureau.judge.machines import representatives
from pagebureau.judge.tallies import first_tally, tallied
from pagebureau.judge.webs import Web

_WAYS = ("late", "doubled")
_BEYOND = 10 ** 15


def _check_plain(pipeline):
    for at, step in enumerate(pipeline):
        summing = isinstance(step, Run) or isinstance(step, Change) or isinstance(step, Total)
        if summing or not step.straight:
            raise NotPlain(at)


def _is_bound(thing):
    return is_plain_integer(thing) and -_BEYOND < thing < _BEYOND


class MoveWeb:
    """The stops of a move, their links and their ends.

    A link is a tuple of the next stop, of what it adds to the change, of the rows of the book
    on the way, and of whether it is before the change.
    """

    def __init__(self, report, way, amounts):
        self._report = report
        self._way = way
        known = representatives([report.pipeline], [report.marks])
        self._web = Web(report.pipeline, known, [amount for amount in amounts if amount is not None])
        marks = [letters[0] for letters in mark_classes(report)]
        self._rows = [(day, mark, amount) for day in "+=" for mark in marks for amount in amounts]
        self._stops = []
        self._numbers = {}
        self._number((self._web.first_place, first_tally(report.word)))
        self.links = []
        self.endings = []
        while len(self.links) < len(self._stops):
            stop = self._stops[len(self.links)]
            self.links.append(self._links_before(stop) if len(stop) == 2 else self._links_behind(stop))
            self.endings.append([] if len(stop) == 2 else self._ends_behind(stop))

    def _number(self, stop):
        if stop not in self._numbers:
            self._numbers[stop] = len(self._stops)
            self._stops.append(stop)
        return self._numbers[stop]

    def _halves(self, half, rows):
        """The list of the places and tallies behind some rows, each with what the rows add to the figure."""
        place, tally = half
        found = [(place, tally, 0)]
        for row in rows:
            found = [longer for some in found for longer in self._halves_at(some, row)]
        return found

    def _halves_at(self, half, row):
        """The places and tallies behind a row, with what has been added to the figure so far."""
        place, tally, so_far = half
        found = []
        for after, signs in self._web.after(place, row):
            tally_after, more = tallied(self._report, tally, signs)
            found.append((after, tally_after, so_far + more))
        return found

    def _links_before(self, stop):
        found = []
        for row in self._rows:
            for place, tally, _ in self._halves(stop, [row]):
                found.append((self._number((place, tally)), 0, [row], True))
        for rows, changed in self._changes():
            found.extend(self._links_of(self._halves(stop, rows), self._halves(stop, changed), rows))
        return found

    def _changes(self):
        """The list of the pairs of the rows that are changed, and of what they become."""
        if self._way == "doubled":
            return [([row], [row, ("=", *row[1:])]) for row in self._rows]
        return [
            ([first, second], [(first[0], *second[1:]), ("=", *first[1:])])
            for first in self._rows for second in self._rows if second[0] == "=" and first[1:] != second[1:]
        ]

    def _links_of(self, halves, changed_halves, rows):
        """The links to all stops with one of some halves, and one of some changed halves."""
        found = []
        for place, tally, more in halves:
            for changed_place, changed_tally, changed_more in changed_halves:
                stop = (place, tally, changed_place, changed_tally)
                found.append((self._number(stop), changed_more - more, rows, False))
        return found

    def _links_behind(self, stop):
        half, changed = stop[:2], stop[2:]
        found = []
        for row in self._rows:
            halves = self._halves(half, [row])
            if half != changed:
                found.extend(self._links_of(halves, self._halves(changed, [row]), [row]))
            else:
                # Of two ways from one place only one can come true.
                for each in halves:
                    found.extend(self._links_of([each], [each], [row]))
        return found

    def _ends_behind(self, stop):
        place, tally, changed_place, changed_tally = stop
        ends = [tallied(self._report, tally, signs)[1] for signs in self._web.ends(place)]
        changed = [tallied(self._report, changed_tally, signs)[1] for signs in self._web.ends(changed_place)]
        return [other - end for end in ends for other in changed]


def _turned(links):
    """The links that count the opposite."""
    return [[(link[0], -link[1], *link[2:]) for link in some] for some in links]


def _longest_ways(report, way, low, high):
    """The ways that count the greatest change, and those that count the least one."""
    amounts = [None, low]
    if high != low and report.word in ("sum", "last"):
        amounts = [None, low, high]
    web = MoveWeb(report, way, amounts)
    links = trimmed(web.links, web.endings)
    return [Longest(links, web.endings), Longest(_turned(links), [[-end for end in some] for some in web.endings])]


class Move:
    """How far late or doubled rows can move a figure; it never changes."""

    def __init__(self, report, way, low, high):
        _check_plain(report.pipeline)
        if way not in _WAYS:
            raise BadWay(way)
        if not _is_bound(low) or not _is_bound(high) or low > high:
            raise BadBounds(low, high)
        check_squared(report)
        self.report = report
        self.way = way
        self.low = low
        self.high = high
        self._longest = _longest_ways(report, way, low, high)
        mosts = [longest.most for longest in self._longest]
        self.most = None if None in mosts else max([int(most) for most in mosts])

    def farther(self, count):
        for longest in self._longest:
            links = longest.links_for(count)
            if links is not None:
                rows = [row for link in links for row in link[2]]
                return book_of_rows(rows), len([link for link in links if link[3]])
        return None
