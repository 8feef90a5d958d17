"""Moves: how far a late or a doubled row can move a figure.

A stop is a tuple of whether it is behind the change, and of two halves: where the book is in
the web, with its tally, and where the changed book is. Both read the same rows before and
behind the change. What a step has guessed of rows that come may differ already before it. A link from
stop to stop adds to the change of the figure.
"""

from pagebureau.base.errors import BadBounds, BadWay, NotPlain
from pagebureau.base.integers import is_plain_integer
from pagebureau.flows.steps import Change, Run, Total
from pagebureau.judge.growth import check_squared
from pagebureau.judge.letters import book_of_rows, mark_classes
from pagebureau.judge.longest import Longest, trimmed
from pagebureau.judge.machines import representatives
from pagebureau.judge.tallies import first_tally, tallied
from pagebureau.judge.webs import Web

_WAYS = ("late", "doubled")
_BEYOND = 10 ** 15


def _check_plain(pipeline):
    for at, step in enumerate(pipeline):
        summing = isinstance(step, Run) or isinstance(step, Change) or isinstance(step, Total)
        if summing or not step.straight:
            raise NotPlain(at)


def _is_bound(thing):
    return is_plain_integer(thing) and -_BEYOND < thing < _BEYOND


class Halves:
    """The halves of stops: pairs of a place in the web and a tally, which are numbered as they come."""

    def __init__(self, report, amounts):
        self._report = report
        known = representatives([report.pipeline], [report.marks])
        self._web = Web(report.pipeline, known, [amount for amount in amounts if amount is not None])
        marks = [letters[0] for letters in mark_classes(report)]
        self.all_rows = [(day, mark, amount) for day in "+=" for mark in marks for amount in amounts]
        self._pairs = []
        self._numbers = {}
        self.first = self._number(self._web.first_place, first_tally(report.word))
        self._known_after = {}
        self._known_ends = {}

    def _number(self, place, tally):
        if (place, tally) not in self._numbers:
            self._numbers[place, tally] = len(self._pairs)
            self._pairs.append((place, tally))
        return self._numbers[place, tally]

    def after(self, half):
        """For each row the list of the halves behind it, each with what the row adds to the figure."""
        if half not in self._known_after:
            self._known_after[half] = [self._after_row(half, row) for row in self.all_rows]
        return self._known_after[half]

    def _after_row(self, half, row):
        place, tally = self._pairs[half]
        found = []
        for after, signs in self._web.after(place, row):
            tally_after, more = tallied(self._report, tally, signs)
            found.append((self._number(after, tally_after), more))
        return found

    def after_rows(self, half, numbers):
        """The list of the halves behind the rows with some numbers, each with what they add to the figure."""
        found = [(half, 0)]
        for number in numbers:
            found = [(after, so_far + more) for each, so_far in found for after, more in self.after(each)[number]]
        return found

    def ends(self, half):
        """The list of what the rows that can come out at the end add to the figure."""
        if half not in self._known_ends:
            place, tally = self._pairs[half]
            self._known_ends[half] = [tallied(self._report, tally, signs)[1] for signs in self._web.ends(place)]
        return self._known_ends[half]


class MoveWeb:
    """The stops of a move, their links and their ends.

    A link is a tuple of the next stop, of what it adds to the change, of the rows of the book
    on the way, and of whether it is before the change.
    """

    def __init__(self, report, way, amounts):
        self._halves = Halves(report, amounts)
        self._changes = _late_rows(self._halves.all_rows) if way == "late" else _doubled_rows(self._halves.all_rows)
        self._stops = []
        self._numbers = {}
        self._number((False, self._halves.first, self._halves.first))
        self.links = []
        self.endings = []
        while len(self.links) < len(self._stops):
            is_behind, half, changed = self._stops[len(self.links)]
            self.links.append(self._links_behind(half, changed) if is_behind else self._links_before(half, changed))
            self.endings.append(self._ends_behind(half, changed) if is_behind else [])

    def _number(self, stop):
        if stop not in self._numbers:
            self._numbers[stop] = len(self._stops)
            self._stops.append(stop)
        return self._numbers[stop]

    def _links_before(self, half, changed):
        after, changed_after = self._halves.after(half), self._halves.after(changed)
        found = []
        for row, halves, changed_halves in zip(self._halves.all_rows, after, changed_after):
            found.extend(self._links_of(False, halves, changed_halves, [row]))
        for numbers, changed_numbers in self._changes:
            halves = self._halves.after_rows(half, numbers)
            changed_halves = self._halves.after_rows(changed, changed_numbers)
            rows = [self._halves.all_rows[number] for number in numbers]
            found.extend(self._links_of(True, halves, changed_halves, rows))
        return _different(found)

    def _links_of(self, is_behind, halves, changed_halves, rows):
        """The links to all stops with one of some halves, and one of some changed halves."""
        return [
            (self._number((is_behind, half, changed)), changed_more - more, rows, not is_behind)
            for half, more in halves for changed, changed_more in changed_halves
        ]

    def _links_behind(self, half, changed):
        after, changed_after = self._halves.after(half), self._halves.after(changed)
        found = []
        for row, halves, changed_halves in zip(self._halves.all_rows, after, changed_after):
            if half != changed:
                found.extend(self._links_of(True, halves, changed_halves, [row]))
            else:
                # The same rows come to both, and of two ways from one half only one can come true.
                for each in halves:
                    found.extend(self._links_of(True, [each], [each], [row]))
        return _different(found)

    def _ends_behind(self, half, changed):
        ends, changed_ends = self._halves.ends(half), self._halves.ends(changed)
        return [other - end for end in ends for other in changed_ends]


def _different(links):
    """Of the links to one stop that add the same, one."""
    found = {link[:2]: link for link in links}
    return list(found.values())


def _doubled_rows(rows):
    """The pairs of the numbers of a row, and of the row and its copy."""
    return [([at], [at, rows.index(("=", *row[1:]))]) for at, row in enumerate(rows)]


def _late_rows(rows):
    """The pairs of the numbers of two rows of one day, and of the two when they are exchanged."""
    found = []
    for at, first in enumerate(rows):
        for place, second in enumerate(rows):
            if second[0] == "=" and first[1:] != second[1:]:
                found.append(([at, place], [rows.index((first[0], *second[1:])), rows.index(("=", *first[1:]))]))
    return found


def _longest_ways(report, way, low, high):
    """The ways that count the greatest change, and those that count the least one."""
    amounts = [None, low]
    if high != low and report.word in ("sum", "last"):
        amounts = [None, low, high]
    web = MoveWeb(report, way, amounts)
    links = trimmed(web.links, web.endings)
    return [Longest(links, web.endings, sign) for sign in (1, -1)]


class Move:
    """How far late or doubled rows can move a figure; it never changes."""

    def __init__(self, report, way, low, high):
        _check_plain(report.pipeline)
        if way not in _WAYS:
            raise BadWay(way)
        if not _is_bound(low) or not _is_bound(high) or low > high:
            raise BadBounds(low, high)
        check_squared(report)
        self.report = report
        self.way = way
        self.low = low
        self.high = high
        self._longest = _longest_ways(report, way, low, high)
        mosts = [longest.most for longest in self._longest]
        self.most = None if None in mosts else max([int(most) for most in mosts])

    def farther(self, count):
        for longest in self._longest:
            links = longest.links_for(count)
            if links is not None:
                rows = [row for link in links for row in link[2]]
                return book_of_rows(rows), len([link for link in links if link[3]])
        return None
