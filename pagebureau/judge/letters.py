"""Letters: the rows that the judge lets come next, the marks it tells apart, and its efforts."""

from pagebureau.base.errors import TooLarge
from pagebureau.base.marks import Marks
from pagebureau.base.rows import Book
from pagebureau.flows.pipelines import check_straight
from pagebureau.flows.steps import Against, Change, Fill, Keep, Rename, Sift, Total

_MOST_EFFORT = 4000
_AMOUNTS = {".": None, "0": 0, "1": 1}


def _sets_of_step(step):
    """The list of the letters of the sets of marks in a step."""
    if isinstance(step, Sift) or isinstance(step, Rename) or isinstance(step, Against):
        return [step.marks.letters]
    if isinstance(step, Keep):
        return [term[1] for term in step.keeper.rule if term[0] == "in"]
    return [step.limits[2]] if isinstance(step, Fill) else []


def classes_of(pipelines, more):
    """The texts of the classes of marks of some pipelines and some more sets of marks."""
    sets = [letters for pipeline in pipelines for step in pipeline for letters in _sets_of_step(step)]
    sets = sets + [marks.letters for marks in more]
    classes = {}
    for mark in Marks.ALL:
        membership = tuple([mark in letters for letters in sets])
        classes[membership] = classes.get(membership, "") + mark
    return list(classes.values())


def mark_classes(*reports):
    return classes_of([report.pipeline for report in reports], [report.marks for report in reports])


def letters_with(marks):
    """The ascending list of all letters with these marks."""
    return [f"{day}{mark}{amount}" for day in "+=" for mark in marks for amount in _AMOUNTS]


def letters_of(*reports):
    return letters_with([letters[0] for letters in mark_classes(*reports)])


def amount_of(letter):
    """The amount of a letter."""
    return _AMOUNTS[letter[2]]


def grown(book, letter):
    row = (0, letter[1], amount_of(letter))
    return book.followed(Book([row]), same=letter[0] == "=")


def book_of_rows(rows):
    """The book of some triples of `=` or `+`, a mark and an amount, as of letters, without a bound on its days."""
    day = 0
    found = []
    for sign, mark, amount in rows:
        if sign == "+" and found:
            day = day + 1
        found.append((day, mark, amount))
    return Book(found)


def book_of_letters(letters):
    """The grown book of some letters."""
    return book_of_rows([(letter[0], letter[1], amount_of(letter)) for letter in letters])


def _power(number, times):
    """The product of a number taken so many times."""
    product = 1
    for _ in range(times):
        product = product * number
    return product


def _effort_of_fill(limits, count):
    way, rows, _ = limits
    if way == "up":
        return _power(2 * count, rows)
    if way == "down":
        return 2 if rows is None else rows + 2
    return 1


def _effort_of_step(step, count):
    """The effort of a straight step with so many classes of marks."""
    if isinstance(step, Keep):
        return 2 * count + 1
    if isinstance(step, Fill):
        return _effort_of_fill(step.limits, count)
    if isinstance(step, Change):
        return 2
    return 3 if isinstance(step, Total) else 1


def _effort_of_steps(pipeline, count):
    product = 1
    for step in pipeline:
        product = product * _effort_of_step(step, count)
    return product


def effort(*reports):
    for report in reports:
        check_straight(report.pipeline)
    count = len(mark_classes(*reports))
    pipelines = {report.pipeline.text(): report.pipeline for report in reports}
    product = 1
    for text in pipelines:
        product = product * _effort_of_steps(pipelines[text], count)
    for report in reports:
        product = product * (2 if report.word == "days" else 1)
    return product


def pipeline_effort(pipeline):
    check_straight(pipeline)
    return _effort_of_steps(pipeline, len(Marks.ALL))


def check_effort(many):
    """Raises TooLarge with an effort that is too large for a question."""
    if many > _MOST_EFFORT:
        raise TooLarge(many)
