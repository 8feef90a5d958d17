"""Steps: what turns a book into a book."""

from pagebureau.base.errors import BadFactor, BadManner, BadStep, BadText, NoMark
from pagebureau.base.integers import is_plain_integer, read_integer, written
from pagebureau.base.marks import Marks, check_mark
from pagebureau.base.rows import Book
from pagebureau.filling.fillings import Filling
from pagebureau.filling.limits import fill_text, is_fill_step, read_fill
from pagebureau.keeping.keepers import Keeper

_LARGEST_FACTOR = 1000
_LARGEST_DIGITS = 4
# A straight `fill up` has at most so many rows.
_MOST_ROWS_UP = 3


def _read_marks_and_mark(rest):
    """The set of marks and the word behind it that some words tell."""
    words = rest.split(" ")
    if len(words) != 2:
        raise BadText(0)
    return Marks.read(words[0]), words[1]


def _read_words(kind, rest):
    """The step with this first word that the rest of a text tells, if any of this kind can have it."""
    if kind == "sift":
        return Sift(Marks.read(rest))
    if kind in ("rename", "against"):
        marks, mark = _read_marks_and_mark(rest)
        return Rename(marks, mark) if kind == "rename" else Against(marks, mark)
    if kind == "keep":
        return Keep(Keeper.read(rest))
    if kind == "fill":
        return Fill(read_fill(rest))
    if kind == "run":
        return Run()
    if kind == "change":
        return Change()
    if kind == "total":
        return Total(rest)
    if kind == "times":
        return Times(read_integer(rest, _LARGEST_DIGITS))
    raise BadText(0)


class Step:
    """What all steps are; a step never changes."""

    @staticmethod
    def read(text):
        kind, _, rest = text.partition(" ")
        try:
            step = _read_words(kind, rest)
        except (BadText, BadManner, NoMark, BadFactor):
            raise BadText(0) from None
        # Writing the step shows whether there was anything else in the text.
        if step.text() != text:
            raise BadText(0)
        return step

    def __eq__(self, other):
        return isinstance(other, Step) and self.text() == other.text()


class Sift(Step):
    """Only the rows of some marks stay."""

    KIND = "sift"

    def __init__(self, marks):
        self.marks = marks

    def text(self):
        return f"{self.KIND} {self.marks.text()}"

    @property
    def straight(self):
        return True

    def __call__(self, book):
        return Book([row for row in book if row[1] in self.marks])


class Rename(Step):
    """The rows of some marks get another mark."""

    KIND = "rename"

    def __init__(self, marks, mark):
        check_mark(mark)
        self.marks = marks
        self.mark = mark

    def text(self):
        return f"{self.KIND} {self.marks.text()} {self.mark}"

    @property
    def straight(self):
        return True

    def __call__(self, book):
        return Book([(day, self.mark if mark in self.marks else mark, amount) for day, mark, amount in book])


class Keep(Step):
    """Only the rows that a keeper keeps stay."""

    KIND = "keep"

    def __init__(self, keeper):
        self.keeper = keeper

    def text(self):
        return f"{self.KIND} {self.keeper.text()}"

    @property
    def straight(self):
        return self.keeper.straight

    def __call__(self, book):
        return self.keeper(book)


class Fill(Step):
    """A fill step is done."""

    KIND = "fill"

    def __init__(self, limits):
        if not is_fill_step(limits):
            raise BadStep(0)
        self.limits = limits

    def text(self):
        return f"{self.KIND} {fill_text(self.limits)}"

    @property
    def straight(self):
        way, rows, _ = self.limits
        return way in ("down", "drop") or (way == "up" and rows is not None and rows <= _MOST_ROWS_UP)

    def __call__(self, book):
        filling = Filling([self.limits])
        return filling(book)


class Run(Step):
    """Each amount becomes the sum of all amounts so far."""

    KIND = "run"

    def text(self):
        return self.KIND

    @property
    def straight(self):
        return True

    def __call__(self, book):
        total = 0
        rows = []
        for day, mark, amount in book:
            total = total + (0 if amount is None else amount)
            rows.append((day, mark, None if amount is None else total))
        return Book(rows)


class Change(Step):
    """Each amount becomes the difference to the one before it."""

    KIND = "change"

    def text(self):
        return self.KIND

    @property
    def straight(self):
        return True

    def __call__(self, book):
        before = 0
        rows = []
        for day, mark, amount in book:
            rows.append((day, mark, None if amount is None else amount - before))
            before = before if amount is None else amount
        return Book(rows)


class Total(Step):
    """The rows of each day are added up to one row."""

    KIND = "total"

    def __init__(self, mark):
        check_mark(mark)
        self.mark = mark

    def text(self):
        return f"{self.KIND} {self.mark}"

    @property
    def straight(self):
        return True

    def __call__(self, book):
        amounts = {}
        for day, _, amount in book:
            before = amounts.get(day)
            amounts[day] = before if amount is None else amount + (0 if before is None else before)
        return Book([(day, self.mark, amounts[day]) for day in amounts])


class Against(Step):
    """Behind each row of some marks comes a row against it."""

    KIND = "against"

    def __init__(self, marks, mark):
        check_mark(mark)
        self.marks = marks
        self.mark = mark

    def text(self):
        return f"{self.KIND} {self.marks.text()} {self.mark}"

    @property
    def straight(self):
        return True

    def __call__(self, book):
        rows = []
        for row in book:
            rows.append(row)
            if row[1] in self.marks:
                rows.append((row[0], self.mark, None if row[2] is None else -row[2]))
        return Book(rows)


class Times(Step):
    """Each amount is multiplied by a factor."""

    KIND = "times"

    def __init__(self, factor):
        if not is_plain_integer(factor) or abs(factor) > _LARGEST_FACTOR:
            raise BadFactor(factor)
        self.factor = factor

    def text(self):
        return f"{self.KIND} {written(self.factor)}"

    @property
    def straight(self):
        return True

    def __call__(self, book):
        return Book([(day, mark, None if amount is None else amount * self.factor) for day, mark, amount in book])
