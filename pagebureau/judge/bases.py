"""Bases: books from whose figures those of all books follow."""

from pagebureau.base.fracs import Frac
from pagebureau.judge.growth import Ends, check_question, grown_from
from pagebureau.judge.letters import book_of_letters
from pagebureau.judge.vectors import Frame, product_of


def as_frac(number):
    """A number as a Frac."""
    return number if isinstance(number, Frac) else Frac(number)


class Basis:
    """The first basis of some reports; it never changes."""

    def __init__(self, *reports):
        check_question(reports)
        self._machine, self._growth = grown_from(reports)
        self._books = [book_of_letters(letters) for letters in self._growth.books]

    def __len__(self):
        return len(self._books)

    def __iter__(self):
        return iter(self._books)

    def _shadow_of(self, vector):
        zero = Frac()
        return [zero if number == 0 else as_frac(number) for number in self._growth.shadow(vector)]

    def shadow(self, book):
        return self._shadow_of(self._machine.after_book(book))

    def matrix(self, letter):
        vectors = self._growth.vectors
        return [self._shadow_of(self._machine.after_letter(vector, letter)) for vector in vectors]

    def tests(self):
        frame = Frame()
        found = []
        for number, letters, result in Ends(self._machine).found:
            figures = [product_of(vector, result) for vector in self._growth.vectors]
            told = {at: figure for at, figure in enumerate(figures) if figure != 0}
            # The ends tell all vectors apart, also such as no book has.
            if frame.grow(told) is not None:
                found.append((number, book_of_letters(letters), letters[:1] != [] and letters[0][0] == "="))
        return found
