"""Growth: the grown books whose vectors span those of all books, and the rows that tell vectors apart."""

from pagebureau.judge.fronts import report_machines
from pagebureau.judge.letters import book_of_letters, check_effort, effort, letters_of, letters_with
from pagebureau.judge.machines import joined
from pagebureau.judge.vectors import Frame, product_of


def joined_machine(reports):
    """The machine of some reports side by side."""
    return joined(report_machines(reports))


def check_question(reports):
    """Raises NotStraight, then TooLarge, for a question about some reports."""
    check_effort(effort(*reports))


def check_squared(report):
    """Raises NotStraight, then TooLarge, for a question with the effort of a report times itself."""
    check_effort(effort(report) ** 2)


class Growth:
    """The first grown books whose vectors are no mixtures of those before, as lists of letters.

    Books that are grown from mixtures of others are mixtures of what is grown from these, so
    that only the found books are grown further. They come in the order of the grown books.
    """

    def __init__(self, machine, letters):
        self._machine = machine
        self._letters = letters
        self._frame = Frame()
        self.books = []
        self.vectors = []
        self._looked_at = 0
        self._look([], machine.first)

    def _look(self, letters, vector):
        # An entry below 0 goes along, so that it is known what the frame is mixed from.
        marked = {**vector, -1 - len(self.books): 1}
        if self._frame.grow(marked) is not None:
            self.books.append(letters)
            self.vectors.append(vector)

    def reach(self, at):
        """Whether there is a book of this index, which is found then."""
        while len(self.books) <= at and self._looked_at < len(self.books):
            book, vector = self.books[self._looked_at], self.vectors[self._looked_at]
            self._looked_at = self._looked_at + 1
            for letter in self._letters:
                # The first row of a book begins a day, and `=` would lead to an equal vector.
                if book or letter[0] == "+":
                    self._look([*book, letter], self._machine.after_letter(vector, letter))
        return len(self.books) > at

    def go(self):
        """Finds all books."""
        while self.reach(len(self.books)):
            pass

    def shadow(self, vector):
        """The list of the weights with which the vectors of the books, all found, mix to a vector."""
        rest = self._frame.rest(vector)
        return [-rest.get(-1 - at, 0) for at in range(len(self.books))]


def first_book(machine, letters, is_wanted):
    """The first grown book with letters whose list of results is wanted, None if there is none.

    The results are wanted unless they fulfil some linear equation.
    """
    growth = Growth(machine, letters)
    at = 0
    while growth.reach(at):
        if is_wanted(machine.read_off(growth.vectors[at])):
            return book_of_letters(growth.books[at])
        at = at + 1
    return None


def grown_from(reports):
    """The machine of some reports side by side, and all its growth."""
    machine = joined_machine(reports)
    growth = Growth(machine, letters_of(*reports))
    growth.go()
    return machine, growth


class Ends:
    """The shortest lists of letters behind books that tell the vectors of a machine apart.

    Each is told by its letters and by the vector that its result is read off with.
    """

    def __init__(self, machine):
        self._machine = machine
        self._letters = letters_with(machine.marks)
        self._frame = Frame()
        # Tuples of the number of a result, letters, and the vector.
        self.found = []
        for number, result in enumerate(machine.results):
            self._look(number, [], result)
        looked_at = 0
        while looked_at < len(self.found):
            number, letters, result = self.found[looked_at]
            looked_at = looked_at + 1
            for letter in self._letters:
                self._look(number, [letter, *letters], machine.before_letter(result, letter))

    def _look(self, number, letters, result):
        if self._frame.grow(result) is not None:
            self.found.append((number, letters, result))

    def shortest(self, vector):
        """The letters of the shortest end behind which a vector has a result other than 0, None if there is none."""
        for _, letters, result in self.found:
            if product_of(vector, result) != 0:
                return letters
        return None
