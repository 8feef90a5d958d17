"""What comes from pipelines: which marks, which of them alone, and which tables."""

from pagebureau.base.errors import NotFree
from pagebureau.base.marks import Marks, check_mark
from pagebureau.flows.figures import Report
from pagebureau.judge.fronts import report_machine
from pagebureau.judge.growth import first_book
from pagebureau.judge.letters import book_of_rows, check_effort, letters_of, pipeline_effort
from pagebureau.judge.machines import representatives
from pagebureau.judge.outlets import Outlet
from pagebureau.judge.webs import Web
from pagebureau.judge.ways import NEW_DAY
from pagebureau.shares.comparing import parting_table
from pagebureau.shares.formulas import check_size


def _check_pipeline(pipeline):
    check_effort(pipeline_effort(pipeline))


def _first_with(pipeline, mark):
    """A book with as few rows as possible of which a row of a mark is left, None if there is none."""
    report = Report(pipeline, "count", Marks(mark))
    machine = report_machine(report, representatives([pipeline], [report.marks]))
    return first_book(machine, letters_of(report), lambda results: results[0] != 0)


def coming(pipeline):
    _check_pipeline(pipeline)
    return Outlet(pipeline).coming()


def coming_book(pipeline, mark):
    check_mark(mark)
    _check_pipeline(pipeline)
    return _first_with(pipeline, mark)


class UnitSearch:
    """A search for the shortest book of which one row is left, with a wanted mark.

    A stop is a pair of a place in the web of the pipeline, and whether the row has come.
    """

    def __init__(self, pipeline, mark):
        known = representatives([pipeline], [Marks(mark)])
        self._web = Web(pipeline, known, [0])
        self._mark = mark
        marks = sorted(set(list(known.values())))
        self._rows = [(day, each, amount) for day in "+=" for each in marks for amount in (None, 0)]
        start = (self._web.first_place, False)
        self._stops = [start]
        # For each stop the one before it, and the row on the way from there.
        self._before = {start: None}

    def _has_come(self, has_come, signs):
        """Whether the row has come when signs have come out; None if other rows have."""
        rows = [sign[0] for sign in signs if sign[0] != NEW_DAY]
        if not rows:
            return has_come
        return True if rows == [self._mark] and not has_come else None

    def _go_on(self, stop):
        place, has_come = stop
        # A book begins a day with its first row, like one with `=`.
        for row in self._rows:
            for after, signs in self._web.after(place, row):
                after_row = self._has_come(has_come, signs)
                found = (after, after_row)
                if after_row is not None and found not in self._before:
                    self._before[found] = (stop, row)
                    self._stops.append(found)

    def _is_end(self, stop):
        place, has_come = stop
        return any([self._has_come(has_come, signs) is True for signs in self._web.ends(place)])

    def _book_to(self, stop):
        rows = []
        way = self._before[stop]
        while way is not None:
            stop, row = way
            rows.append(row)
            way = self._before[stop]
        return book_of_rows(rows[::-1])

    def shortest(self):
        """The book that is searched for, None if there is none."""
        at = 0
        while at < len(self._stops):
            if self._is_end(self._stops[at]):
                return self._book_to(self._stops[at])
            self._go_on(self._stops[at])
            at = at + 1
        return None


def unit_book(pipeline, mark):
    check_mark(mark)
    _check_pipeline(pipeline)
    return UnitSearch(pipeline, mark).shortest()


def is_free(pipeline):
    _check_pipeline(pipeline)
    outlet = Outlet(pipeline)
    return outlet.coming() == outlet.alone()


def parting_sheets(pipeline, first, second):
    _check_sheets(pipeline, first, second)
    outlet = Outlet(pipeline)
    marks = outlet.coming()
    bound = list(marks - outlet.alone())
    if bound:
        raise NotFree(bound[0])
    table = parting_table(first & marks, second & marks)
    if table is None:
        return None
    books = [[unit_book(pipeline, mark)] * table[mark] for mark in marks if table[mark] > 0]
    return [book for some in books for book in some]


def _check_sheets(pipeline, first, second):
    many = pipeline_effort(pipeline)
    check_size(first.size + second.size)
    check_effort(many)
