"""The words and lines of papers: how they are written and read.

Whoever reads a line raises BadText with its index, which is the number of lines where there
is no such line.
"""

from pagebureau.base.errors import BadFrac, BadRow, BadText
from pagebureau.base.fracs import Frac
from pagebureau.base.integers import read_integer, written
from pagebureau.base.marks import Marks
from pagebureau.base.rows import Book, is_row
from pagebureau.shares.tables import Table

_DIGITS = 60
_DAY_DIGITS = 4
_AMOUNT_DIGITS = 40
_NO_ROWS = "-"
# A book of a basis has so many shadows for each class of marks, of which there are at most 6.
_SHADOWS = 6
_MOST_SHADOWS = 36


def line_of(name, words):
    """A line with some words behind the first one."""
    return " ".join([name, *words])


def frac_words(numbers):
    return [number.text() for number in numbers]


def number_words(numbers):
    return [written(number) for number in numbers]


def _row_word(row):
    day, mark, amount = row
    shown = "." if amount is None else written(amount)
    return f"{day}{mark}{shown}"


def book_word(book):
    """The word of a book."""
    return ",".join([_row_word(row) for row in book]) if len(book) > 0 else _NO_ROWS


def _read_row(word):
    """The row with this word, None if there is none."""
    digits = len(word) - len(word.lstrip("0123456789"))
    day = read_integer(word[:digits], _DAY_DIGITS)
    shown = word[digits + 1:]
    amount = None if shown == "." else read_integer(shown, _AMOUNT_DIGITS)
    row = (day, word[digits:digits + 1], amount)
    return row if is_row(row) and (amount is not None or shown == ".") else None


def _words_behind(lines, at, name):
    """The words behind the first one, which is the name, in the line of this index."""
    if at >= len(lines):
        raise BadText(len(lines))
    words = lines[at].split(" ")
    if words[0] != name:
        raise BadText(at)
    return words[1:]


def check_end(lines, many):
    """Raises BadText if there are more lines than so many."""
    if len(lines) > many:
        raise BadText(many)


def read_numbers(lines, at, name):
    """The integers behind the name in the line of this index."""
    numbers = [read_integer(word, _DIGITS) for word in _words_behind(lines, at, name)]
    if None in numbers:
        raise BadText(at)
    return numbers


def _read_frac(word):
    """The Frac with this word, None if there is none."""
    try:
        return Frac.read(word)
    except BadFrac:
        return None


def read_fracs(lines, at, name):
    """The Fracs behind the name in the line of this index."""
    fracs = [_read_frac(word) for word in _words_behind(lines, at, name)]
    if any([frac is None for frac in fracs]):
        raise BadText(at)
    return fracs


def read_book(lines, at):
    """The book behind the word `book` in the line of this index."""
    words = _words_behind(lines, at, "book")
    if len(words) != 1:
        raise BadText(at)
    rows = [_read_row(word) for word in words[0].split(",")] if words[0] != _NO_ROWS else []
    try:
        return Book(rows)
    except BadRow:
        raise BadText(at) from None


def read_order(lines):
    """The order and the prices of a paper on an order."""
    order = read_numbers(lines, 1, "order")
    if any([number < 0 for number in order]):
        raise BadText(1)
    return order, [_read_prices(lines, at) for at in range(2, len(lines))]


def _read_prices(lines, at):
    numbers = read_numbers(lines, at, "prices")
    if len(numbers) & 1 == 1:
        raise BadText(at)
    return list(zip(numbers[::2], numbers[1::2]))


def read_basis(lines):
    """The books, the start and the shadows of a paper on a basis."""
    start = read_fracs(lines, 1, "start")
    books = []
    shadows = []
    at = 2
    for _ in start:
        books.append(read_book(lines, at))
        many = len(shadows[0]) if shadows else _count_shadows(lines, at + 1, len(start))
        shadows.append([_read_shadow(lines, at + 1 + k, len(start)) for k in range(many)])
        at = at + 1 + many
    check_end(lines, at)
    return books, start, shadows


def _read_shadow(lines, at, size):
    shadow = read_fracs(lines, at, "shadow")
    if len(shadow) != size:
        raise BadText(at)
    return shadow


def _count_shadows(lines, first, size):
    """The number of the shadows that the first book has, from the line of this index on."""
    many = 0
    while many < _MOST_SHADOWS and _is_shadow(lines, first + many, size):
        many = many + 1
    if many == 0 or many // _SHADOWS * _SHADOWS != many:
        raise BadText(first + many)
    return many


def _is_shadow(lines, at, size):
    try:
        _read_shadow(lines, at, size)
    except BadText:
        return False
    return True


def read_sources(lines):
    """The constant and the weights of a paper on sources."""
    constants = read_numbers(lines, 1, "constant")
    if len(constants) != 1:
        raise BadText(1)
    return constants[0], [_read_weight(lines, at) for at in range(2, len(lines))]


def _read_weight(lines, at):
    numbers = read_numbers(lines, at, "weight")
    if len(numbers) != 2 or numbers[0] < 0:
        raise BadText(at)
    return tuple(numbers)


def read_bar(lines):
    """The bar of a paper on one."""
    return [_read_table(lines, at) for at in range(1, len(lines))]


def _read_table(lines, at):
    words = _words_behind(lines, at, "table")
    factor = _read_frac(words[0]) if words else None
    counts = [read_integer(word, _DIGITS) for word in words[1:]]
    if factor is None or len(counts) != len(Marks.ALL) or not all([_is_count(count) for count in counts]):
        raise BadText(at)
    table = {mark: count for mark, count in zip(Marks.ALL, counts)}
    return factor, Table(**table)


def _is_count(thing):
    return thing is not None and 0 <= thing <= Table.MOST
