"""Rows and books."""

from pagebureau.base.errors import BadRow, BadText, NoRow
from pagebureau.base.integers import is_digits, is_plain_integer
from pagebureau.base.marks import is_mark

LAST_DAY = 9999
# An amount and its text have at most so many digits.
_DIGITS = 40
_BEYOND = 10 ** 40


def is_amount(thing):
    """Whether the thing is the amount of a row."""
    return thing is None or (is_plain_integer(thing) and -_BEYOND < thing < _BEYOND)


def is_row(thing):
    if not isinstance(thing, tuple) or len(thing) != 3:
        return False
    day, mark, amount = thing
    return is_plain_integer(day) and 0 <= day <= LAST_DAY and is_mark(mark) and is_amount(amount)


def row_text(row):
    day, mark, amount = row
    shown = "." if amount is None else f"{amount:+d}"
    return f"{day:>4} {mark} {shown:>16}"


def read_row(line):
    """The row with this text, None if there is none."""
    day = line[:4].lstrip(" ")
    amount = line[7:].lstrip(" ")
    if not is_digits(day) or not _can_be_amount(amount):
        return None
    row = (int(day), line[5:6], None if amount == "." else int(amount))
    return row if is_row(row) and row_text(row) == line else None


def _can_be_amount(word):
    if word == ".":
        return True
    return word[:1] in ("+", "-") and is_digits(word[1:]) and len(word) <= 1 + _DIGITS


def worth(amount):
    """What an amount adds to a balance: an empty one counts as 0."""
    return 0 if amount is None else amount


def by_day(rows):
    """The list of the rows by day, those of one day in their order."""
    keys = [(row[0], place) for place, row in enumerate(rows)]
    return [rows[place] for _, place in sorted(set(keys))]


def check_rows(rows):
    """Raises BadRow with the place of the first item that is not a row."""
    for place, row in enumerate(rows):
        if not is_row(row):
            raise BadRow(place)


def _check_days(rows):
    day = 0
    for place, row in enumerate(rows):
        if not is_row(row) or row[0] < day:
            raise BadRow(place)
        day = row[0]


class Book:
    """Rows in which no day is less than that of the row before; it never changes.

    Where a changed book has a wrong row or a falling day, making it raises the error.
    """

    def __init__(self, rows=()):
        _check_days(rows)
        self._rows = list(rows)

    @classmethod
    def of(cls, rows):
        check_rows(rows)
        return cls(by_day(rows))

    @classmethod
    def read(cls, text):
        lines = text.split("\n") if text else []
        rows = [read_row(line) for line in lines]
        if None in rows:
            raise BadText(rows.index(None))
        return cls(rows)

    def text(self):
        return "\n".join([row_text(row) for row in self._rows])

    def __len__(self):
        return len(self._rows)

    def __iter__(self):
        return iter(self._rows)

    def __eq__(self, other):
        return isinstance(other, Book) and self._rows == other._rows

    def __getitem__(self, at):
        self._check_place(at)
        return self._rows[at]

    def __add__(self, other):
        return Book(self._rows + other._rows)

    def __or__(self, other):
        return Book.of(self._rows + other._rows)

    def until(self, day):
        return Book([row for row in self._rows if row[0] <= day])

    def since(self, day):
        return Book([row for row in self._rows if row[0] >= day])

    def days(self):
        return sorted(set([row[0] for row in self._rows]))

    def changed(self, place, amount):
        day, mark, _ = self[place]
        return Book(self._rows[:place] + [(day, mark, amount)] + self._rows[place + 1:])

    def without(self, place):
        self._check_place(place)
        return Book(self._rows[:place] + self._rows[place + 1:])

    def copied(self, place):
        self._check_place(place)
        return Book(self._rows[:place + 1] + self._rows[place:])

    def swapped(self, place):
        if not 0 <= place < len(self._rows) - 1:
            raise NoRow(place)
        exchanged = [self._rows[place + 1], self._rows[place]]
        return Book(self._rows[:place] + exchanged + self._rows[place + 2:])

    def _check_place(self, place):
        if not 0 <= place < len(self._rows):
            raise NoRow(place)

    def followed(self, more, *, same=False):
        if not self._rows or not more._rows:
            return self + more
        day = self._rows[-1][0] if same else self._rows[-1][0] + 1
        shift = day - more._rows[0][0]
        moved = [(day + shift, mark, amount) for day, mark, amount in more._rows]
        return Book(self._rows + moved)
