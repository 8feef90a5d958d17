"""Late and doubled rows, rows that are left out, and books that come in two batches.

Each question is about a change of a book at one place. A change is a tuple of the letters at
this place, of the vector behind them less the vector behind the change, and of whether it is a
change only if no rows come behind. The books before a place come from the growth of the
report's machine, the rows behind it from its ends.
"""

from pagebureau.base.marks import Marks, check_mark
from pagebureau.judge.fronts import with_steps
from pagebureau.judge.growth import Ends, Growth, check_squared, grown_from
from pagebureau.judge.letters import book_of_letters, letters_of, mark_classes
from pagebureau.judge.machines import joined, with_unit_results
from pagebureau.judge.vectors import minus, product_of, without_zeros


def _shortest(growth, ends, changes_at):
    """The letters before, at and behind the place of a change with the fewest rows, None if there is none.

    `changes_at` gives the list of the changes behind a book and its vector.
    """
    best = None
    for book, vector in zip(growth.books, growth.vectors):
        for letters, difference, is_last in changes_at(book, vector):
            end = _end_behind(ends, difference, is_last)
            if end is not None:
                many = len(book) + len(letters) + len(end)
                if best is None or many < best[0]:
                    best = (many, book, letters, end)
    return None if best is None else best[1:]


def _end_behind(ends, difference, is_last):
    """The shortest end behind which a difference is seen, None if there is none."""
    if not is_last:
        return ends.shortest(difference)
    # The first end has no rows, unless all figures are 0.
    return [] if ends.found and product_of(difference, ends.found[0][2]) != 0 else None


class Places:
    """A report's machine with its growth and its ends."""

    def __init__(self, report):
        self.machine, self.growth = grown_from([report])
        self.letters = letters_of(report)
        self.tails = Ends(self.machine)

    def letters_behind(self, book):
        """The letters that can stand behind some letters: `=` is left to books with a row."""
        return [letter for letter in self.letters if len(book) > 0 or letter[0] == "+"]

    def after(self, vector, letters):
        """The vector behind some more letters."""
        for letter in letters:
            vector = self.machine.after_letter(vector, letter)
        return vector


def _book_and_place(found):
    """The pair of a book and the place of the change in it."""
    if found is None:
        return None
    book, letters, end = found
    return book_of_letters([*book, *letters, *end]), len(book)


def _late_changes(places, book, vector):
    found = []
    for first in places.letters_behind(book):
        for second in places.letters:
            # Exchanging the rows the other way round makes the opposite difference.
            if second[0] == "=" and first[1:] < second[1:]:
                late = places.after(vector, [first[0] + second[1:], "=" + first[1:]])
                difference = minus(places.after(vector, [first, second]), 1, late)
                found.append(([first, second], difference, False))
    return found


def on_time(report):
    check_squared(report)
    places = Places(report)
    found = _shortest(places.growth, places.tails, lambda book, vector: _late_changes(places, book, vector))
    return _book_and_place(found)


def _doubled_changes(places, book, vector):
    found = []
    for letter in places.letters_behind(book):
        behind = places.after(vector, [letter])
        difference = minus(behind, 1, places.after(behind, ["=" + letter[1:]]))
        found.append(([letter], difference, False))
    return found


def steadfast(report):
    check_squared(report)
    places = Places(report)
    found = _shortest(places.growth, places.tails, lambda book, vector: _doubled_changes(places, book, vector))
    return _book_and_place(found)


def _missing_changes(places, mark, book, vector):
    """The rows of a mark that are left out behind a book."""
    found = []
    for letter in [each for each in places.letters_behind(book) if each[1] == mark]:
        behind = places.after(vector, [letter])
        # Where the row begins a day behind other rows, the row behind it begins one then.
        begins_day = len(book) > 0 and letter[0] == "+"
        found.append(([letter], minus(behind, 1, vector), begins_day))
        for second in places.letters if begins_day else []:
            left = places.after(vector, ["+" + second[1:]])
            found.append(([letter, second], minus(places.after(behind, [second]), 1, left), False))
    return found


def _missing_row(places, mark):
    """The shortest change by a row of a mark, which stands for its class, that is left out."""
    return _shortest(places.growth, places.tails, lambda book, vector: _missing_changes(places, mark, book, vector))


def seen_row(report, mark):
    check_mark(mark)
    check_squared(report)
    stands = [letters[0] for letters in mark_classes(report) if mark in letters][0]
    found = _missing_row(Places(report), stands)
    if found is None:
        return None
    book, letters, end = found
    return _book_and_place((book, [letters[0].replace(stands, mark), *letters[1:]], end))


def unseen(report):
    check_squared(report)
    places = Places(report)
    found = Marks()
    for letters in mark_classes(report):
        if _missing_row(places, letters[0]) is None:
            found = found | Marks(letters)
    return found


def _batched_change(machine, vector):
    """The change by which a pipeline is run on a book alone, given its vector.

    The results of the machine are the vectors of the book on which it was run, and of the book.
    """
    results = machine.read_off(vector)
    count = len(results) // 2
    differences = {at: results[count + at] - results[at] for at in range(count)}
    return [([], without_zeros(differences), False)]


def batched(report):
    check_squared(report)
    places = Places(report)
    once = with_unit_results(places.machine)
    machine = joined([with_steps(report.pipeline, once), once])
    growth = Growth(machine, places.letters)
    growth.go()
    found = _shortest(growth, places.tails, lambda book, vector: _batched_change(machine, vector))
    return _book_and_place(found)
