"""Forms: what a formula is on all tables on which exactly some marks are present."""

from pagebureau.base.fracs import Frac


def _present_in(letters, marks):
    return "".join([letter for letter in letters if letter in marks])


def _factor_on(term, marks):
    """The factor of a term, divided by how many sets of each grouping have a count above 0."""
    factor, _, _, groupings = term
    for grouping in groupings:
        factor = factor.over(len([group for group in grouping if _present_in(group, marks) != ""]))
    return factor


def _added_up(formula, marks):
    """A dict from wholes to dicts from marks to the coefficients over them, all as they come."""
    found = {}
    for term in formula.terms():
        whole = _present_in(term[2], marks)
        if whole != "":
            coefficients = found.setdefault(whole, {})
            factor = _factor_on(term, marks)
            for mark in _present_in(term[1], marks):
                coefficients[mark] = coefficients.get(mark, Frac()) + factor
    return found


def _without_first(whole, coefficients):
    """The coefficients over a whole less that of its first mark times all shares in it, which make 1."""
    first = coefficients.get(whole[0], Frac())
    marks = sorted(set([*whole, *coefficients]))
    less = [(mark, coefficients.get(mark, Frac()) - (first if mark in whole else 0)) for mark in marks]
    return [(mark, coefficient) for mark, coefficient in less if coefficient != 0]


def form(formula, marks):
    found = _added_up(formula, marks)
    constant = Frac.added([found[whole].get(whole[0], Frac()) for whole in found])
    rests = [(whole, _without_first(whole, found[whole])) for whole in sorted(set(list(found)))]
    return constant, [(whole, coefficients) for whole, coefficients in rests if coefficients]
