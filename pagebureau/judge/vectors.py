"""Vectors with few entries other than 0, and frames of what they span.

A vector is a dict from integers, its indexes, to numbers other than 0.
"""

from pagebureau.base.fracs import Frac


def plain_number(frac):
    """A Frac as an integer if it is whole."""
    return frac.top if frac.bottom == 1 else frac


def without_zeros(vector):
    """The vector without entries of 0, and with integers in place of whole Fracs, which are slow."""
    return {
        at: number if isinstance(number, int) else plain_number(number)
        for at, number in vector.items() if number != 0
    }


def put(vector, at, number):
    """Adds a number to an entry; this may leave a 0."""
    vector[at] = vector.get(at, 0) + number


def times_rows(vector, rows):
    """The vector times a matrix, told by its rows, a list of vectors."""
    found = {}
    for at, number in vector.items():
        for other, factor in rows[at].items():
            found[other] = found.get(other, 0) + number * factor
    return without_zeros(found)


def minus(vector, times, other):
    """The vector less a multiple of another one."""
    found = {at: number for at, number in vector.items()}
    for at, number in other.items():
        found[at] = found.get(at, 0) - times * number
    return without_zeros(found)


def product_of(vector, other):
    """The sum of the products of the entries of both."""
    return sum([number * other[at] for at, number in vector.items() if at in other])


def divided(number, divisor):
    """The quotient of two numbers, an integer if it is whole."""
    if divisor == 1 or divisor == -1:
        return number * divisor
    return plain_number(Frac(1).over(divisor) * number)


def turned(rows):
    """The rows of the matrix turned round: its columns."""
    columns = [{} for _ in rows]
    for at, row in enumerate(rows):
        for other, number in row.items():
            columns[other][at] = number
    return columns


def _pivot_of(vector):
    """The index at which a new vector of a frame is 1; entries that are 1 or -1 keep the others whole."""
    found = None
    for at, number in vector.items():
        if at >= 0:
            if number == 1 or number == -1:
                return at
            found = at if found is None else found
    return found


class Frame:
    """Vectors that span the same as those that it was grown by.

    Each vector has an index at which it is 1 and all others are 0. Entries at indexes below
    0 do not count: they only go along with the vectors.
    """

    def __init__(self):
        self.vectors = {}

    def __len__(self):
        return len(self.vectors)

    def rest(self, vector):
        """The vector less what it has of the vectors of the frame."""
        found = {at: number for at, number in vector.items()}
        for at in [index for index in vector if index in self.vectors]:
            times = vector[at]
            for other, number in self.vectors[at].items():
                found[other] = found.get(other, 0) - times * number
        return without_zeros(found)

    def grow(self, vector):
        """The new vector of the frame, None if the vector was in its span."""
        rest = self.rest(vector)
        pivot = _pivot_of(rest)
        if pivot is None:
            return None
        new = {at: divided(number, rest[pivot]) for at, number in rest.items()}
        for at, other in list(self.vectors.items()):
            if pivot in other:
                self.vectors[at] = minus(other, other[pivot], new)
        self.vectors[pivot] = new
        return new
