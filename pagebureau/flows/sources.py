"""Sources: from which amounts of a book the figure of a straight report comes.

The rows that a straight pipeline leaves, and which of them are empty, do not depend on the
amounts. So the weights of the amounts that are left give those of the amounts before the
last step, and so on, back to the first one.
"""

from pagebureau.base.rows import Book
from pagebureau.flows.pipelines import check_straight
from pagebureau.flows.steps import Change, Run, Times, Total


def _with_amounts(rows, amounts):
    """The book of the rows in which the full ones have other amounts."""
    pairs = list(zip(rows, amounts))
    return Book([(day, mark, None if old is None else new) for (day, mark, old), new in pairs])


def _weights_left(report, rows):
    """The weights of the rows that the pipeline leaves, by place."""
    places = [at for at, row in enumerate(rows) if row[2] is not None and row[1] in report.marks]
    if report.word == "sum":
        return {place: 1 for place in places}
    return {place: 1 for place in places[-1:]} if report.word == "last" else {}


def _full_places(rows):
    return [place for place, row in enumerate(rows) if row[2] is not None]


def _before_run(rows, weights):
    found = {}
    total = 0
    for place in _full_places(rows)[::-1]:
        total = total + weights.get(place, 0)
        found[place] = total
    return found


def _before_change(rows, weights):
    found = {}
    behind = 0
    for place in _full_places(rows)[::-1]:
        weight = weights.get(place, 0)
        found[place] = weight - behind
        behind = weight
    return found


def _before_total(rows, weights):
    days = sorted(set([row[0] for row in rows]))
    by_day = {day: weights.get(at, 0) for at, day in enumerate(days)}
    return {place: by_day[rows[place][0]] for place in _full_places(rows)}


def _before_moving(step, rows, weights):
    """The weights before a step that takes each amount from some row, or the opposite of it."""
    numbers = [place + 1 for place in range(len(rows))]
    found = {}
    for place, row in enumerate(step(_with_amounts(rows, numbers))):
        if row[2] is not None:
            weight = weights.get(place, 0)
            source = abs(row[2]) - 1
            found[source] = found.get(source, 0) + (weight if row[2] > 0 else -weight)
    return found


def _weights_before(step, rows, weights):
    """The weights of the rows before a step, given those of the rows behind it."""
    if isinstance(step, Run):
        return _before_run(rows, weights)
    if isinstance(step, Change):
        return _before_change(rows, weights)
    if isinstance(step, Total):
        return _before_total(rows, weights)
    if isinstance(step, Times):
        return {place: weights[place] * step.factor for place in weights}
    return _before_moving(step, rows, weights)


def sources(report, book):
    check_straight(report.pipeline)
    level = _with_amounts(list(book), [0] * len(book))
    left = list(report.pipeline.along(level))
    books = [level, *left]
    weights = _weights_left(report, list(books[-1]))
    for step, before in list(zip(report.pipeline, books))[::-1]:
        weights = _weights_before(step, list(before), weights)
    pairs = [(place, weights[place]) for place in weights if weights[place] != 0]
    return report(level), sorted(set(pairs))


def line_sources(report, mended):
    constant, pairs = sources(report, mended.book)
    found = []
    for place, weight in pairs:
        number, line = mended.source(place)
        found.append((number, line, weight))
    return constant, found
