"""Mixing formulas: weights with which told formulas add up to a wanted one, or a bar to that.

Told formulas are taken one after another. A corner is a pair of factors, with which they are
mixed, and a table: the mixture is 1 on this table, and 0 on the tables of the corners before.
"""

from pagebureau.base.fracs import Frac
from pagebureau.shares.comparing import first_other_than_zero
from pagebureau.shares.formulas import Formula, check_size


def mixture_of(formulas, factors):
    total = Formula.zero()
    for formula, factor in zip(formulas, factors):
        if factor != 0:
            total = total + factor.top * formula // factor.bottom
    return total


def _rest_of(formulas, at, corners):
    """The factors of what is left of a formula, so that it is 0 on the tables of the corners."""
    rest = [Frac(int(other == at)) for other in range(len(formulas))]
    for factors, table in corners:
        value = mixture_of(formulas, rest)(table)
        rest = [one - value * other for one, other in zip(rest, factors)]
    return rest


def _corners_of(formulas):
    """A corner for each formula that is no mixture of those before it."""
    corners = []
    for at in range(len(formulas)):
        rest = _rest_of(formulas, at, corners)
        left = mixture_of(formulas, rest)
        table = first_other_than_zero(left)
        if table is not None:
            corners.append(([factor.over(left(table)) for factor in rest], table))
    return corners


def _corners_with(wanted, told):
    """The corners of the told formulas and the wanted one, which comes last."""
    check_size(wanted.size + sum([formula.size for formula in told]))
    return _corners_of([*told, wanted])


def _has_corner(corners):
    """Whether the last one of the corners is that of the wanted formula."""
    return len(corners) > 0 and corners[-1][0][-1] != 0


def weights(wanted, told):
    corners = _corners_with(wanted, told)
    if _has_corner(corners):
        return None
    return [-factor for factor in _rest_of([*told, wanted], len(told), corners)[:-1]]


def bar(wanted, told):
    corners = _corners_with(wanted, told)
    if not _has_corner(corners):
        return None
    # A corner is 1 on its own table and 0 on those before. So the factor of its table can take
    # off what the corner adds up to on the tables behind.
    pairs = [(corners[-1][0][-1], corners[-1][1])]
    for factors, table in corners[-2::-1]:
        mixed = mixture_of([*told, wanted], factors)
        total = Frac.added([factor * mixed(other) for factor, other in pairs])
        pairs = [(-total, table), *pairs]
    return [(factor, table) for factor, table in pairs if factor != 0]
