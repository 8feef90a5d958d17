"""Figures: what is counted or added up of a book, and reports, rates and sheets made of it."""

from pagebureau.base.errors import BadFigure, BadText
from pagebureau.base.fracs import Frac
from pagebureau.base.marks import Marks
from pagebureau.flows.pipelines import Pipeline
from pagebureau.shares.tables import Table

WORDS = ("count", "full", "days", "sum", "last")
# The figures that are numbers of rows or days.
_COUNTING = ("count", "full", "days")
_PER = "per"


def _check_word(word):
    if word not in WORDS:
        raise BadFigure(word)


def figure_of(book, word, marks):
    _check_word(word)
    rows = [row for row in book if row[1] in marks]
    amounts = [row[2] for row in rows if row[2] is not None]
    if word == "count":
        return len(rows)
    if word == "full":
        return len(amounts)
    if word == "days":
        return len(set([row[0] for row in rows]))
    if word == "sum":
        return sum(amounts)
    return amounts[-1] if amounts else 0


def _read_figure(line, at):
    """The word and the marks that a line tells, which has this index."""
    word, _, letters = line.partition(" ")
    if word not in WORDS:
        raise BadText(at)
    try:
        return word, Marks.read(letters)
    except BadText:
        raise BadText(at) from None


class Report:
    """A figure of what a pipeline leaves; it never changes."""

    def __init__(self, pipeline, word, marks):
        _check_word(word)
        self.pipeline = pipeline
        self.word = word
        self.marks = marks

    @classmethod
    def read(cls, text):
        lines = text.split("\n")
        # An empty line is no step, though the empty pipeline has the empty text.
        if lines[:-1] == [""]:
            raise BadText(0)
        pipeline = Pipeline.read("\n".join(lines[:-1]))
        word, marks = _read_figure(lines[-1], len(lines) - 1)
        return cls(pipeline, word, marks)

    def text(self):
        figure = f"{self.word} {self.marks.text()}"
        return f"{self.pipeline.text()}\n{figure}" if len(self.pipeline) > 0 else figure

    def __eq__(self, other):
        return isinstance(other, Report) and self.text() == other.text()

    @property
    def straight(self):
        return self.pipeline.straight

    def __call__(self, book):
        return figure_of(self.pipeline(book), self.word, self.marks)

    def on(self, books):
        return sum([self(book) for book in books])

    def with_steps(self, pipeline):
        return Report(pipeline, self.word, self.marks)


def _read_behind(lines, at):
    """The report that the lines behind the one of this index tell."""
    try:
        return Report.read("\n".join(lines[at + 1:]))
    except BadText as error:
        raise BadText(at + 1 + error.at) from None


class Rate:
    """The figure of one report divided by that of another one; it never changes."""

    def __init__(self, top, bottom):
        if bottom.word not in _COUNTING:
            raise BadFigure(bottom.word)
        self.top = top
        self.bottom = bottom

    @classmethod
    def read(cls, text):
        lines = text.split("\n")
        if _PER not in lines:
            raise BadText(len(lines))
        at = lines.index(_PER)
        top = Report.read("\n".join(lines[:at]))
        return cls(top, _read_behind(lines, at))

    def text(self):
        return f"{self.top.text()}\n{_PER}\n{self.bottom.text()}"

    def __eq__(self, other):
        return isinstance(other, Rate) and self.text() == other.text()

    def __call__(self, books):
        below = self.bottom.on(books)
        return Frac(self.top.on(books), below) if below != 0 else Frac()


class Sheet:
    """A formula on the numbers of rows that a pipeline leaves; it never changes."""

    def __init__(self, pipeline, formula):
        self.pipeline = pipeline
        self.formula = formula

    def table(self, books):
        left = [self.pipeline(book) for book in books]
        return Table.of(*left)

    def __call__(self, books):
        return self.formula(self.table(books))
