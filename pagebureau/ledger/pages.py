"""Pages: lines that stood directly after one another in a ledger."""

from pagebureau.base.errors import BadLine, BadText, EmptyPage
from pagebureau.base.integers import is_plain_integer, read_integer, written
from pagebureau.base.rows import is_row, read_row, row_text, worth

# The text of a row whose amount has no more digits than that of a line is so long.
_ROW_WIDTH = 23
_DIGITS = 15


def is_line(thing):
    """Whether the thing is a row and the balance after it."""
    if not isinstance(thing, tuple) or len(thing) != 4:
        return False
    return is_row(thing[:3]) and is_plain_integer(thing[3])


def line_text(line):
    """The text of a line."""
    return f"{row_text(line[:3])} {written(line[3]):>16}"


def read_line(text):
    """The line with this text, None if there is none."""
    row = read_row(text[:_ROW_WIDTH])
    balance = read_integer(text[_ROW_WIDTH:].lstrip(" "), _DIGITS)
    if row is None or balance is None:
        return None
    line = (*row, balance)
    return line if line_text(line) == text else None


def _goes_on(before, line):
    """Whether the line can stand directly after the one before."""
    return before[0] <= line[0] and before[3] + worth(line[2]) == line[3]


def _check_lines(lines):
    if len(lines) == 0:
        raise EmptyPage()
    for at, line in enumerate(lines):
        if not is_line(line) or (at > 0 and not _goes_on(lines[at - 1], line)):
            raise BadLine(at)


def _balanced(rows, opening):
    """The lines of some rows, of which the first ones are looked at up to a wrong one."""
    lines = []
    balance = opening
    day = 0
    for at, row in enumerate(rows):
        if not is_row(row) or row[0] < day:
            raise BadLine(at)
        day = row[0]
        balance = balance + worth(row[2])
        lines.append((*row, balance))
    return lines


class Page:
    """One or more lines; it never changes."""

    def __init__(self, lines):
        _check_lines(lines)
        self._lines = list(lines)

    @classmethod
    def of(cls, rows, opening):
        return cls(_balanced(rows, opening))

    @classmethod
    def read(cls, text):
        lines = [read_line(line) for line in text.split("\n")]
        if None in lines:
            raise BadText(lines.index(None))
        return cls(lines)

    @property
    def opening(self):
        first = self._lines[0]
        return first[3] - worth(first[2])

    @property
    def closing(self):
        return self._lines[-1][3]

    @property
    def first_day(self):
        return self._lines[0][0]

    @property
    def last_day(self):
        return self._lines[-1][0]

    def text(self):
        return "\n".join([line_text(line) for line in self._lines])

    def rows(self):
        return [line[:3] for line in self._lines]

    def __len__(self):
        return len(self._lines)

    def __iter__(self):
        return iter(self._lines)

    def __eq__(self, other):
        return isinstance(other, Page) and self._lines == other._lines

    def __add__(self, other):
        return Page(self._lines + other._lines)

    def __rshift__(self, count):
        return Page(self._lines[count:])

    def __lshift__(self, count):
        return Page(self._lines[:max(0, len(self._lines) - count)])

    def __abs__(self):
        return sum([abs(worth(line[2])) for line in self._lines])
