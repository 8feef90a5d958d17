"""Rates that are alike, and books on which the values of others differ.

For a list of books let T and B be the figures of the top and the bottom of one rate on them,
and U and C those of the other one. Where B and C are not 0, the values differ exactly if
T * C is not U * B.
"""

from pagebureau.judge.fronts import report_machines, with_steps
from pagebureau.judge.growth import Growth, check_question, first_book
from pagebureau.judge.letters import book_of_letters, letters_of
from pagebureau.judge.machines import absence_machine, joined, multiplied


class Contest:
    """The reports of two rates, the tops and the bottoms by their rates."""

    def __init__(self, first, second):
        reports = [first.top, first.bottom, second.top, second.bottom]
        self._letters = letters_of(*reports)
        self._tops = [first.top, second.top]
        self._bottoms = [first.bottom, second.bottom]
        self._machines = report_machines(reports)
        # The machines that tell 1 on the books on which a bottom is 0, by the numbers of the rates.
        self._absences = {}

    def differ(self, books):
        """Whether the values of the rates differ on some books."""
        tops = [report.on(books) for report in self._tops]
        bottoms = [report.on(books) for report in self._bottoms]
        if 0 in bottoms:
            # The value over a bottom of 0 is 0. The other one is not, if its top and bottom are not.
            return any([top != 0 and bottom != 0 for top, bottom in zip(tops, bottoms)])
        return tops[0] * bottoms[1] != tops[1] * bottoms[0]

    def _first_book(self, machine):
        """A book for which the result of a machine is not 0, None if there is none."""
        return first_book(machine, self._letters, lambda results: results[0] != 0)

    def book_with(self, at):
        """A book on which the figure of a report is not 0, None if there is none."""
        return self._first_book(self._machines[at])

    def _absence(self, rate):
        """The machine that tells 1 on the books on which the bottom of a rate is 0, and 0 on others."""
        if rate not in self._absences:
            bottom = self._bottoms[rate]
            absence = absence_machine(self._machines[0].known, bottom.word, bottom.marks)
            self._absences[rate] = with_steps(bottom.pipeline, absence)
        return self._absences[rate]

    def book_without(self, rate, at):
        """A book on which the bottom of a rate is 0, and the figure of a report is not, None if there is none."""
        return self._first_book(multiplied(self._absence(rate), self._machines[at]))

    def crossing(self):
        """Two books on which T * C - U * B, taken crosswise, is not 0, None if there are none."""
        machine = joined(self._machines)
        growth = Growth(machine, self._letters)
        growth.go()
        figures = [machine.read_off(vector) for vector in growth.vectors]
        for at, one in enumerate(figures):
            for place in range(at + 1):
                other = figures[place]
                if one[0] * other[3] + other[0] * one[3] != one[2] * other[1] + other[2] * one[1]:
                    return [book_of_letters(growth.books[at]), book_of_letters(growth.books[place])]
        return None


def _some(contest, lists):
    """The first of some lists of books on which the values differ."""
    return [books for books in lists if contest.differ(books)][0]


def _parting_over_zero(contest, top_book, bottom_book):
    """Books on which one value is 0 and the other is not, None if there are none.

    On neither book has the rate with the value 0 a bottom. The other rate has a top on the
    first one and a bottom on the second one, if they are not None.
    """
    if top_book is None or bottom_book is None:
        return None
    return _some(contest, [[top_book], [bottom_book], [top_book, bottom_book]])


def _parting_without_bottom(contest):
    """Books on which the bottom of one rate alone is 0, but not its value, None if there are none."""
    for rate, top, bottom in ((0, 2, 3), (1, 0, 1)):
        found = _parting_over_zero(contest, contest.book_without(rate, top), contest.book_without(rate, bottom))
        if found is not None:
            return found
    return None


def _parting_with_bottoms(contest, bottom_books):
    """Books on which neither bottom is 0 and the values differ, None if there are none."""
    pair = contest.crossing()
    if pair is None:
        return None
    # T * C - U * B is not 0 on one of these lists. For as many copies of it as are added to
    # the books with bottoms, it is a square in their number, with at most two zeros.
    lists = [[pair[0]], [pair[1]], pair]
    return _some(contest, [bottom_books + some * many for some in lists for many in (0, 1, 2)])


def _check_rates(first, second):
    check_question([first.top, first.bottom, second.top, second.bottom])


def parting_rates(first, second):
    _check_rates(first, second)
    contest = Contest(first, second)
    found = _parting_without_bottom(contest)
    bottom_books = [contest.book_with(1), contest.book_with(3)]
    if found is not None or None in bottom_books:
        return found
    return _parting_with_bottoms(contest, bottom_books)


def alike_rates(first, second):
    return parting_rates(first, second) is None
