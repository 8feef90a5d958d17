"""Random straight reports, and searches through all small books."""

from itertools import product

from pagebureau.base.marks import Marks
from pagebureau.base.rows import Book
from pagebureau.flows.figures import WORDS, Report
from pagebureau.judge.letters import book_of_rows, letters_with

ALL = "abcdef"
SETS = ("a", "ab", "b", "abcdef", "bcdef", "cdef", "-")


def random_set(source):
    return Marks("".join(mark for mark in ALL if source.random() < 0.5)).text()


def random_step(source, some_set=random_set, marks=ALL):
    """The text of a straight step."""
    kind = source.choice(("sift", "rename", "keep", "keep", "fill", "fill", "run", "change", "total", "against", "times", "drop"))
    if kind == "sift":
        return "sift " + some_set(source)
    if kind in ("rename", "against"):
        return f"{kind} {some_set(source)} {source.choice(marks)}"
    if kind == "keep":
        terms = [source.choice(("full", "empty", "in " + some_set(source))) for _ in range(source.randint(0, 3))]
        return f"keep {source.choice(('over', 'hold', 'first', 'last'))}: {', '.join(terms) or '-'}"
    if kind == "fill":
        way = source.choice(("down", "up"))
        rows = source.choice((None, 1, 2, 3)) if way == "down" else source.randint(1, 2)
        halt = source.choice(("-", "-", some_set(source)))
        return f"fill {way}" + ("" if rows is None else f" rows {rows}") + ("" if halt == "-" else f" halt {halt}")
    if kind == "drop":
        return "fill drop"
    if kind == "total":
        return "total " + source.choice(marks)
    return kind if kind in ("run", "change") else f"times {source.choice((-2, -1, 0, 1, 3))}"


def small_set(source):
    return source.choice(SETS)


def random_report(source, most=3, words=WORDS, some_set=small_set, without=()):
    """A straight report with few sets of marks."""
    steps = [random_step(source, some_set, "abc") for _ in range(source.randint(0, most))]
    steps = [step for step in steps if step.split(" ")[0] not in without]
    return Report.read("\n".join([*steps, f"{source.choice(words)} {some_set(source)}"]))


def random_book(source, most=8, amounts=(None, None, 0, 1, 5, -7)):
    day, rows = 0, []
    for _ in range(source.randint(0, most)):
        day += source.choice((0, 0, 0, 1, 1, 4))
        rows.append((day, source.choice(ALL), source.choice(amounts)))
    return Book(rows)


def small_books(most, marks, amounts=(None, 0, 1)):
    """All books of at most so many rows, with days side by side, those with fewer rows first."""
    kinds = [(sign, mark, amount) for sign in "+=" for mark in marks for amount in amounts]
    for many in range(most + 1):
        for rows in product(kinds, repeat=many):
            if not rows or rows[0][0] == "+":
                yield book_of_rows(rows)


def rows_for(marks):
    """A number of rows up to which all books of these marks are soon listed."""
    return {1: 4, 2: 3, 3: 2}.get(len(marks), 1)


def letters_for(marks):
    return letters_with(marks)


def has_form(book, amounts=(None, 0, 1)):
    """Whether the book has the form of those that the judge returns."""
    return book.days() == list(range(len(book.days()))) and all(row[2] in amounts for row in book)
