"""Flows: straight reports that take the rows of a book one after another."""

from pagebureau.base.errors import BadRow
from pagebureau.base.rows import is_row
from pagebureau.flows.pipelines import check_straight
from pagebureau.flows.streams import Stream


def _counted(report, so_far, rows):
    """A figure and the last day with rows of its marks, behind some more rows."""
    figure, last_day = so_far
    for day, mark, amount in rows:
        if mark in report.marks:
            figure = _figure_with(report.word, figure, last_day != day, amount)
            last_day = day
    return figure, last_day


def _figure_with(word, figure, is_new_day, amount):
    """The figure with a row of its marks."""
    if word == "count":
        return figure + 1
    if word == "days":
        return figure + int(is_new_day)
    if amount is None:
        return figure
    if word == "full":
        return figure + 1
    return figure + amount if word == "sum" else amount


class Flow:
    """A straight report on the rows taken so far; only `take` changes it."""

    def __init__(self, report):
        check_straight(report.pipeline)
        self._report = report
        self._stream = Stream(report.pipeline, [None] * len(report.pipeline))
        # The figure of the rows that have come out so far, and the last day that counts in it.
        self._so_far = (0, None)
        self._taken = 0
        self._last_day = 0
        self._figure = 0

    def take(self, row):
        if not is_row(row) or row[0] < self._last_day:
            raise BadRow(self._taken)
        self._so_far = _counted(self._report, self._so_far, self._stream.take(row))
        self._taken = self._taken + 1
        self._last_day = row[0]
        self._figure, _ = _counted(self._report, self._so_far, self._stream.twin().end())

    @property
    def taken(self):
        return self._taken

    @property
    def figure(self):
        return self._figure

    def copy(self):
        flow = Flow(self._report)
        flow._stream = self._stream.twin()
        flow._so_far = self._so_far
        flow._taken = self._taken
        flow._last_day = self._last_day
        flow._figure = self._figure
        return flow


def figures_along(report, rows):
    flow = Flow(report)
    for row in list(rows):
        flow.take(row)
        yield flow.figure
