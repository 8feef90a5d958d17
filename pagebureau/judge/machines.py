"""Linear machines: vectors that are moved by rows, and from which figures can be read off.

A machine holds a vector. A sign moves it by a matrix: "+" where a new day begins, a mark and
"." for an empty row, a mark and "0" for a full row with the amount 0. What comes to this for
each 1 of the amount of a full row is told by the matrix of the mark and "*". The entries of
degree 0 do not depend on the amounts of the rows so far. Those of degree 1 are sums of these
amounts, each times a number; so the matrices of a mark and "*" lead from degree 0 to degree 1.
"""

from pagebureau.base.marks import Marks
from pagebureau.judge.letters import amount_of, classes_of
from pagebureau.judge.vectors import product_of, times_rows, turned, without_zeros
from pagebureau.judge.ways import NEW_DAY


def representatives(pipelines, more):
    """A dict from the marks to the least ones of their classes."""
    return {mark: letters[0] for letters in classes_of(pipelines, more) for mark in letters}


def signs_of(marks):
    """All signs of some marks."""
    return [NEW_DAY, *[f"{mark}{sign}" for mark in marks for sign in ".0"]]


def names_of(marks):
    """The signs of some marks and the names of the matrices for amounts."""
    return signs_of(marks) + [f"{mark}*" for mark in marks]


class Machine:
    """A linear machine over the marks that stand for their classes.

    `results` is a list of vectors: the products of the held vector with them are read off.
    """

    def __init__(self, known, degrees, first, results, matrices):
        self.known = known
        self.marks = sorted(set(list(known.values())))
        self.degrees = degrees
        self.first = first
        self.results = results
        self.matrices = matrices
        self._columns = {}

    def after_sign(self, vector, sign):
        return times_rows(vector, self.matrices[sign])

    def after_row(self, vector, mark, amount):
        """The vector behind a row of the same day."""
        stands = self.known[mark]
        if amount is None:
            return times_rows(vector, self.matrices[f"{stands}."])
        found = times_rows(vector, self.matrices[f"{stands}0"])
        if amount != 0:
            for at, number in times_rows(vector, self.matrices[f"{stands}*"]).items():
                found[at] = found.get(at, 0) + amount * number
        return without_zeros(found)

    def after_letter(self, vector, letter):
        """The vector behind the row of a letter."""
        before = vector if letter[0] == "=" else self.after_sign(vector, NEW_DAY)
        return self.after_row(before, letter[1], amount_of(letter))

    def after_book(self, book):
        """The vector behind a book."""
        vector = self.first
        day = None
        for row_day, mark, amount in book:
            if day is not None and row_day != day:
                vector = self.after_sign(vector, NEW_DAY)
            day = row_day
            vector = self.after_row(vector, mark, amount)
        return vector

    def read_off(self, vector):
        """The list of the results of a vector."""
        return [product_of(vector, result) for result in self.results]

    def columns(self, name):
        """The columns of a matrix."""
        if name not in self._columns:
            self._columns[name] = turned(self.matrices[name])
        return self._columns[name]

    def before_letter(self, result, letter):
        """What is read off before the row of a letter so as to be this result behind it."""
        mark, amount = self.known[letter[1]], letter[2]
        found = times_rows(result, self.columns(f"{mark}{'.' if amount == '.' else '0'}"))
        if amount == "1":
            for at, number in times_rows(result, self.columns(f"{mark}*")).items():
                found[at] = found.get(at, 0) + number
        found = without_zeros(found)
        return found if letter[0] == "=" else times_rows(found, self.columns(NEW_DAY))


def _unit_rows(count):
    return [{at: 1} for at in range(count)]


def _counting_machine(known, counts):
    """A machine that counts the rows of which the signs are given."""
    matrices = {name: [{}, {}] for name in names_of(Marks.ALL)}
    for sign in signs_of(Marks.ALL):
        matrices[sign] = [{0: 1, 1: 1}, {1: 1}] if sign in counts else _unit_rows(2)
    return Machine(known, [0, 0], {0: 1}, [{1: 1}], matrices)


def _day_machine(known, counts):
    """A machine that counts the days with rows of given signs; its last entry tells whether the day is counted."""
    matrices = {name: [{}, {}, {}] for name in names_of(Marks.ALL)}
    for sign in signs_of(Marks.ALL):
        matrices[sign] = [{0: 1, 1: 1, 2: 1}, {1: 1}, {1: -1}] if sign in counts else _unit_rows(3)
    matrices[NEW_DAY] = [{0: 1}, {1: 1}, {}]
    return Machine(known, [0, 0, 0], {0: 1}, [{1: 1}], matrices)


def _adding_machine(known, marks, forgets):
    """A machine that adds up the amounts of full rows of some marks, or forgets those before each."""
    matrices = {name: _unit_rows(2) for name in signs_of(Marks.ALL)}
    for mark in Marks.ALL:
        matrices[f"{mark}*"] = [{1: 1} if mark in marks else {}, {}]
        if forgets and mark in marks:
            matrices[f"{mark}0"] = [{0: 1}, {}]
    return Machine(known, [0, 1], {0: 1}, [{1: 1}], matrices)


def counted_signs(word, marks):
    """The signs of the rows that are counted in a figure."""
    return [f"{mark}{sign}" for mark in marks for sign in ("0" if word == "full" else ".0")]


def figure_machine(known, word, marks):
    """The machine of a figure of rows that no pipeline has changed."""
    if word == "sum" or word == "last":
        return _adding_machine(known, marks, word == "last")
    counts = counted_signs(word, marks)
    return _day_machine(known, counts) if word == "days" else _counting_machine(known, counts)


def absence_machine(known, word, marks):
    """The machine that tells 1 as long as a figure of numbers of rows or days is 0, and then 0."""
    counts = counted_signs(word, marks)
    matrices = {name: [{}] for name in names_of(Marks.ALL)}
    for sign in signs_of(Marks.ALL):
        matrices[sign] = [{}] if sign in counts else [{0: 1}]
    return Machine(known, [0], {0: 1}, [{0: 1}], matrices)


def with_unit_results(machine):
    """The machine of which each entry is read off."""
    many = len(machine.degrees)
    return Machine(machine.known, machine.degrees, machine.first, _unit_rows(many), machine.matrices)


def joined(machines):
    """The machine with the vectors and the results of some machines side by side."""
    known = machines[0].known
    marks = sorted(set(list(known.values())))
    degrees, first, results = [], {}, []
    matrices = {name: [] for name in names_of(marks)}
    for machine in machines:
        start = len(degrees)
        degrees = degrees + machine.degrees
        shifted = _shifted(machine.first, start)
        first = {**first, **shifted}
        results = results + [_shifted(result, start) for result in machine.results]
        for name in names_of(marks):
            matrices[name] = matrices[name] + [_shifted(row, start) for row in machine.matrices[name]]
    return Machine(known, degrees, first, results, matrices)


def _shifted(vector, start):
    return {start + at: number for at, number in vector.items()}


def _product(vector, other, width):
    """The vector of the products of all entries of two, of which the other one has so many."""
    return {
        at * width + place: number * factor
        for at, number in vector.items() for place, factor in other.items()
    }


def multiplied(level, machine):
    """The machine that tells the first result of a machine of degree 0 times that of another one."""
    width = len(machine.degrees)
    matrices = {}
    for name in names_of(machine.marks):
        level_rows = level.matrices[name.replace("*", "0")]
        matrices[name] = [_product(row, other, width) for row in level_rows for other in machine.matrices[name]]
    degrees = [degree for _ in level.degrees for degree in machine.degrees]
    first = _product(level.first, machine.first, width)
    results = [_product(level.results[0], machine.results[0], width)]
    return Machine(machine.known, degrees, first, results, matrices)
