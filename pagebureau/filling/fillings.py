"""Fillings: fill steps that are done one after another."""

from pagebureau.base.errors import BadStep, BadText, TooLarge
from pagebureau.base.integers import is_plain_integer
from pagebureau.base.rows import Book
from pagebureau.filling.limits import fill_text, is_fill_step, read_fill
from pagebureau.filling.taking import fates


def _read_line(line, at):
    """The fill step with this text, which is the line of this index."""
    try:
        return read_fill(line)
    except BadText:
        raise BadText(at) from None


class Filling:
    """At most 6 fill steps; it never changes."""

    MOST = 6

    def __init__(self, steps=()):
        if len(steps) > Filling.MOST:
            raise TooLarge(len(steps))
        for at, step in enumerate(steps):
            if not is_fill_step(step):
                raise BadStep(at)
        self._steps = list(steps)

    @classmethod
    def read(cls, text):
        lines = text.split("\n") if text else []
        if len(lines) > Filling.MOST:
            raise TooLarge(len(lines))
        return cls([_read_line(line, at) for at, line in enumerate(lines)])

    def text(self):
        return "\n".join([fill_text(step) for step in self._steps])

    def __len__(self):
        return len(self._steps)

    def __iter__(self):
        return iter(self._steps)

    def __eq__(self, other):
        return isinstance(other, Filling) and self._steps == other._steps

    def __add__(self, other):
        if not isinstance(other, Filling):
            return NotImplemented
        return Filling(self._steps + other._steps)

    def __mul__(self, other):
        if not is_plain_integer(other):
            return NotImplemented
        # The steps are counted before they are repeated: the integer may be of any size.
        many = len(self._steps) * other
        if many > Filling.MOST:
            raise TooLarge(many)
        return Filling(self._steps * other) if self._steps else Filling()

    def __rmul__(self, other):
        return self * other

    def __call__(self, book):
        rows = list(book)
        left = []
        for row, fate in zip(rows, fates(self._steps, rows)):
            how, source, _ = fate
            if how != "dropped":
                left.append(row if source is None else (row[0], row[1], rows[source][2]))
        return Book(left)
