"""What comes from pipelines: which marks, which of them alone, and which tables."""

from pagebureau.base.errors import NotFree
from pagebureau.base.marks import Marks, check_mark
from pagebureau.judge.letters import book_of_rows, check_effort, pipeline_effort
from pagebureau.judge.machines import representatives
from pagebureau.judge.outlets import Outlet
from pagebureau.judge.webs import Web
from pagebureau.judge.ways import NEW_DAY
from pagebureau.shares.comparing import parting_table
from pagebureau.shares.formulas import check_size


def _check_pipeline(pipeline):
    check_effort(pipeline_effort(pipeline))


class RowSearch:
    """A search for a book with as few rows as possible of which a row of a mark is left.

    If `is_alone` is True, no other row may be left. A stop is a pair of a place in the web of
    the pipeline, and whether the row has come. Stops that the same rows lead to are looked at
    together, so that of all such books the one whose rows come first is found.
    """

    def __init__(self, pipeline, mark, is_alone):
        known = representatives([pipeline], [Marks(mark)])
        self._web = Web(pipeline, known, [0])
        self._mark = mark
        self._is_alone = is_alone
        marks = sorted(set(list(known.values())))
        self._rows = [(day, each, amount) for day in "+=" for each in marks for amount in (None, 0)]
        start = (self._web.first_place, False)
        # Pairs of a list of rows, and of the stops that it leads to and no list before it does.
        self._groups = [([], [start])]
        self._known_stops = {start: True}

    def _come(self, has_come, signs):
        """Whether the row has come when signs have come out; None if a row has that may not be left."""
        marks = [sign[0] for sign in signs if sign[0] != NEW_DAY]
        if not self._is_alone:
            return has_come or self._mark in marks
        if not marks:
            return has_come
        return True if marks == [self._mark] and not has_come else None

    def _stops_behind(self, stops, row):
        """The list of the new stops to which a row leads from some stops."""
        found = []
        for place, has_come in stops:
            for after, signs in self._web.after(place, row):
                stop = (after, self._come(has_come, signs))
                if stop[1] is not None and stop not in self._known_stops:
                    self._known_stops[stop] = True
                    found.append(stop)
        return found

    def _is_end(self, stops):
        ends = [self._come(has_come, signs) for place, has_come in stops for signs in self._web.ends(place)]
        return any([has_come is True for has_come in ends])

    def shortest(self):
        """The book that is searched for, None if there is none."""
        at = 0
        while at < len(self._groups):
            rows, stops = self._groups[at]
            at = at + 1
            if self._is_end(stops):
                return book_of_rows(rows)
            # A book begins a day with its first row, like one with `=`.
            for row in self._rows:
                behind = self._stops_behind(stops, row)
                if behind:
                    self._groups.append(([*rows, row], behind))
        return None


def coming(pipeline):
    _check_pipeline(pipeline)
    return Outlet(pipeline).coming()


def coming_book(pipeline, mark):
    check_mark(mark)
    _check_pipeline(pipeline)
    return RowSearch(pipeline, mark, False).shortest()


def unit_book(pipeline, mark):
    check_mark(mark)
    _check_pipeline(pipeline)
    return RowSearch(pipeline, mark, True).shortest()


def is_free(pipeline):
    _check_pipeline(pipeline)
    outlet = Outlet(pipeline)
    return outlet.coming() == outlet.alone()


def parting_sheets(pipeline, first, second):
    _check_sheets(pipeline, first, second)
    outlet = Outlet(pipeline)
    marks = outlet.coming()
    bound = list(marks - outlet.alone())
    if bound:
        raise NotFree(bound[0])
    table = parting_table(first & marks, second & marks)
    if table is None:
        return None
    books = [[unit_book(pipeline, mark)] * table[mark] for mark in marks if table[mark] > 0]
    return [book for some in books for book in some]


def _check_sheets(pipeline, first, second):
    many = pipeline_effort(pipeline)
    check_size(first.size + second.size)
    check_effort(many)
