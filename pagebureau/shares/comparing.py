"""Comparing formulas: whether they are the same, and on which table they differ first."""

from pagebureau.base.marks import Marks
from pagebureau.shares.formulas import Formula, check_size
from pagebureau.shares.forms import form
from pagebureau.shares.tables import tables_with

_PLACES = ("none", "part", "whole", "both")


def _all_sets():
    """The list of all 64 sets of marks."""
    found = [Marks()]
    for mark in Marks.ALL:
        found = found + [marks | Marks(mark) for marks in found]
    return found


def _have_same_forms(first, second):
    return all([form(first, marks) == form(second, marks) for marks in _all_sets()])


def same_formula(first, second):
    check_size(first.size + second.size)
    return _have_same_forms(first, second)


def first_other_than_zero(formula):
    """The first table on which the value of a formula is not 0, None if there is none."""
    parting = [marks.letters for marks in _all_sets() if form(formula, marks) != (0, [])]
    if not parting:
        return None
    everything = Marks(Marks.ALL)
    total = 0
    while True:
        for table in tables_with(total, everything):
            # Where the form is 0, so is the value: only other tables are worth looking at.
            if table.present.letters in parting and formula(table) != 0:
                return table
        total = total + 1


def parting_table(first, second):
    # The difference raises TooLarge with the sum of both sizes.
    return first_other_than_zero(first - second)


def _share_like(formula):
    """The only share that can be the same as a formula that is not 0, a pair of part and whole.

    On all six marks the form of a share has one whole. A mark in it is in the part if its
    coefficient is 1 more than that of the first mark of the whole would be, had it one.
    """
    constant, rests = form(formula, Marks(Marks.ALL))
    if not rests:
        # A share that is 1 wherever it is not 0: its part is its whole.
        alone = [mark for mark in Marks.ALL if form(formula, Marks(mark))[0] == 1]
        return Marks("".join(alone)), Marks("".join(alone))
    whole, pairs = rests[0]
    coefficients = {mark: coefficient for mark, coefficient in pairs}
    more = {mark: constant if mark in whole else 0 for mark in Marks.ALL}
    part = [mark for mark in Marks.ALL if coefficients.get(mark, 0) + more[mark] == 1]
    return Marks("".join(part)), Marks(whole)


def single_share(formula):
    part, whole = _share_like(formula)
    return (part, whole) if _have_same_forms(formula, Formula.share(part, whole)) else None


def _placed(part, whole, sieve, place):
    """The share with the sieve at a place."""
    return Formula.share(
        part & sieve if place in ("part", "both") else part,
        whole & sieve if place in ("whole", "both") else whole,
    )


def sieve_places(part, whole, sieve):
    groups = []
    formulas = []
    for place in _PLACES:
        formula = _placed(part, whole, sieve, place)
        same = [at for at, other in enumerate(formulas) if same_formula(formula, other)]
        if same:
            groups[same[0]].append(place)
        else:
            groups.append([place])
            formulas.append(formula)
    return groups
