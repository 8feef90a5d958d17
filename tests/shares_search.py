"""Formulas beside what points 34 and 35 say of their values, and all small tables."""

from fractions import Fraction
from itertools import product

from pagebureau.base.marks import Marks
from pagebureau.shares.formulas import Formula
from pagebureau.shares.tables import Table

ALL = "abcdef"
SETS = [Marks("".join(mark for mark, chosen in zip(ALL, some) if chosen)) for some in product((False, True), repeat=6)]


def shared(part, whole):
    """The share of two sets that are told by their letters."""
    return Formula.share(Marks(part), Marks(whole))


def sized(size):
    """A formula of this size."""
    total = Formula.zero()
    for _ in range(size):
        total = total + shared("a", "ab")
    return total


def exact(frac):
    """The value of a Frac."""
    return Fraction(frac.top, frac.bottom)


def count_of(counts, marks):
    return sum(counts[mark] for mark in marks)


def sifted(counts, marks):
    return {mark: counts[mark] if mark in marks else 0 for mark in ALL}


class Told:
    """A formula and how it was made: `value` goes by the words of point 35."""

    def __init__(self, formula, size, value):
        self.formula = formula
        self.size = size
        self.value = value

    def on(self, table):
        return self.value({mark: table[mark] for mark in ALL})


def zero():
    return Told(Formula.zero(), 0, lambda counts: Fraction(0))


def share(part, whole):
    def value(counts):
        below = count_of(counts, whole)
        return Fraction(count_of(counts, part), below) if below else Fraction(0)
    return Told(Formula.share(part, whole), 1, value)


def plus(a, b):
    return Told(a.formula + b.formula, a.size + b.size, lambda counts: a.value(counts) + b.value(counts))


def minus(a, b):
    return Told(a.formula - b.formula, a.size + b.size, lambda counts: a.value(counts) - b.value(counts))


def turned(a):
    return Told(-a.formula, a.size, lambda counts: -a.value(counts))


def times(a, n):
    return Told(n * a.formula, a.size, lambda counts: n * a.value(counts))


def over(a, n):
    return Told(a.formula // n, a.size, lambda counts: a.value(counts) / n)


def on_sifted(a, marks):
    return Told(a.formula & marks, a.size, lambda counts: a.value(sifted(counts, marks)))


def mean(a, groups):
    def value(counts):
        many = sum(count_of(counts, group) > 0 for group in groups)
        total = sum((a.value(sifted(counts, group)) for group in groups), Fraction(0))
        return total / many if many else Fraction(0)
    return Told(a.formula.mean(*groups), a.size * len(groups), value)


def random_marks(source, letters=ALL):
    return Marks("".join(mark for mark in letters if source.random() < 0.5))


def random_told(source, most, depth=6, letters=ALL):
    """A random formula of at most this size."""
    if depth == 0 or source.random() < 0.15:
        if most == 0 or source.random() < 0.08:
            return zero()
        return share(random_marks(source, letters), random_marks(source, letters))
    how = source.choice(("sum", "sum", "sum", "mean", "mean", "sift", "times", "over", "turn"))
    if how == "sum":
        first = random_told(source, most, depth - 1, letters)
        second = random_told(source, most - first.size, depth - 1, letters)
        return source.choice((plus, minus))(first, second)
    if how == "mean":
        many = source.randint(1, 4)
        inner = random_told(source, most // many, depth - 1, letters)
        return mean(inner, [random_marks(source, letters) for _ in range(many)])
    inner = random_told(source, most, depth - 1, letters)
    if how == "sift":
        return on_sifted(inner, random_marks(source, letters))
    if how == "turn":
        return turned(inner)
    return times(inner, source.randint(-3, 3)) if how == "times" else over(inner, source.choice((-3, -1, 1, 2, 7)))


def table_of(counts):
    return Table(**dict(zip(ALL, counts)))


def random_table(source, amounts=(0, 0, 1, 2, 3, 10, 10 ** 18)):
    return table_of([source.choice(amounts) for _ in ALL])


def small_tables(most, letters=ALL):
    """All tables over some marks whose total is at most this, in the order of point 34."""
    lists = [[]]
    for mark in ALL:
        counts = range(most + 1) if mark in letters else (0,)
        lists = [[*some, count] for some in lists for count in counts if sum(some) + count <= most]
    return [table_of(counts) for counts in sorted(lists, key=lambda some: (sum(some), some))]


def value_of_form(told, table):
    """What a form says of a table."""
    constant, rests = told
    value = exact(constant)
    for whole, coefficients in rests:
        for mark, coefficient in coefficients:
            value += exact(coefficient) * Fraction(table[mark], sum(table[other] for other in whole))
    return value
