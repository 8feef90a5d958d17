"""Reading answers off papers on a basis: what their shadows show for all books."""

from pagebureau.base.marks import Marks
from pagebureau.judge.letters import letters_of, mark_classes
from pagebureau.judge.vectors import Frame, minus, product_of, times_rows, turned, without_zeros
from pagebureau.papers.examining import vector_of


class Told:
    """The matrices that a paper tells for the letters of its reports, and figures on its books.

    `figures` is a list of vectors; a row is void if no letters lead it to a row whose product
    with one of them is other than 0.
    """

    def __init__(self, paper, letters, figures):
        self.matrices = {}
        for at, letter in enumerate(letters):
            self.matrices[letter] = [vector_of(some[at]) for some in paper.shadows]
        self.letters = letters
        self.figures = figures
        self._seen = self._all_seen()

    def _all_seen(self):
        """The vectors of which a row is void if its products with them are all 0."""
        columns = [turned(self.matrices[letter]) for letter in self.letters]
        frame = Frame()
        waiting = [figure for figure in self.figures if frame.grow(figure) is not None]
        at = 0
        while at < len(waiting):
            for some in columns:
                before = times_rows(waiting[at], some)
                if frame.grow(before) is not None:
                    waiting.append(before)
            at = at + 1
        return list(frame.vectors.values())

    def is_void(self, row):
        return all([product_of(row, seen) == 0 for seen in self._seen])

    def product_rows(self, letter, other):
        """The rows of the product of the matrices of two letters."""
        return [times_rows(row, self.matrices[other]) for row in self.matrices[letter]]

    def are_equal(self, rows, others):
        """Whether the rows differ from others by void rows only."""
        return all([self.is_void(minus(row, 1, other)) for row, other in zip(rows, others)])


def _figures_on(books, report):
    return [report(book) for book in books]


def _numbered(figures):
    return without_zeros({at: figure for at, figure in enumerate(figures)})


def _told_by(paper, report):
    """What a paper on a basis of a report tells of it; it is examined first."""
    paper.examine(report)
    return Told(paper, letters_of(report), [_numbered(_figures_on(paper.books, report))])


def alike_by(paper, first, second):
    paper.examine(first, second)
    figures, others = _figures_on(paper.books, first), _figures_on(paper.books, second)
    difference = _numbered([one - other for one, other in zip(figures, others)])
    return Told(paper, letters_of(first, second), [difference]).is_void(vector_of(paper.start))


def on_time_by(paper, report):
    told = _told_by(paper, report)
    for first in told.letters:
        for second in told.letters:
            # Exchanging the rows the other way round makes the opposite difference.
            if second[0] == "=" and first[1:] < second[1:]:
                rows = told.product_rows(first, second)
                late = told.product_rows(first[0] + second[1:], "=" + first[1:])
                if not told.are_equal(rows, late):
                    return False
    return True


def steadfast_by(paper, report):
    told = _told_by(paper, report)
    return all([
        told.are_equal(told.product_rows(letter, "=" + letter[1:]), told.matrices[letter]) for letter in told.letters
    ])


def _is_unseen_in_day(told, letter):
    """Whether a row that does not begin a day can be left out."""
    rows = told.matrices[letter]
    return told.are_equal(rows, [{at: 1} for at in range(len(rows))])


def _is_unseen_before(told, letter):
    """Whether a row that begins a day can be left out, before another row or behind all."""
    figure = told.figures[0]
    for at, row in enumerate(told.matrices[letter]):
        if product_of(row, figure) != figure.get(at, 0):
            return False
    return all([
        told.are_equal(told.product_rows(letter, other), told.matrices["+" + other[1:]]) for other in told.letters
    ])


def _is_unseen(told, mark):
    """Whether all rows of a mark, the least of its class, can be left out."""
    letters = [letter for letter in told.letters if letter[1] == mark]
    return all([
        _is_unseen_in_day(told, letter) if letter[0] == "=" else _is_unseen_before(told, letter)
        for letter in letters
    ])


def unseen_by(paper, report):
    told = _told_by(paper, report)
    return Marks("".join([letters for letters in mark_classes(report) if _is_unseen(told, letters[0])]))
