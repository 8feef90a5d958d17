"""Examining papers: what each kind must tell so as to hold for its question.

Each function gets what a paper tells and its question, and raises Untrue at the first part
that is wrong. Nothing that is told is taken on trust.
"""

from pagebureau.base.errors import BadOrder, Untrue
from pagebureau.base.fracs import Frac
from pagebureau.base.rows import LAST_DAY, Book
from pagebureau.flows.sources import sources
from pagebureau.judge.growth import check_question, joined_machine
from pagebureau.judge.letters import letters_of
from pagebureau.judge.vectors import minus, plain_number, times_rows
from pagebureau.ledger.heaps import closings_of, gaps, links_of, stages, toll
from pagebureau.shares.comparing import same_formula
from pagebureau.shares.formulas import check_size
from pagebureau.shares.mixing import mixture_of


def _check(holds, part, at):
    """Raises Untrue unless a part holds."""
    if not holds:
        raise Untrue(part, at)


def _count_gaps(order, pages, opening, closing):
    """The number of the gaps of what is told as an order."""
    try:
        return len(gaps(pages, opening, closing, order))
    except BadOrder:
        raise Untrue("order", -1) from None


def _is_low_enough(price, balance, stage_links, at, told, closing):
    """Whether a price after the stage of an index is not too high."""
    if at + 1 == len(stage_links):
        return price <= int(balance != closing)
    return price <= toll(stage_links[at + 1], told[at + 1], balance)


def examine_order(order, prices, pages, opening, closing):
    stage_links = [links_of(pages, stage) for stage in stages(pages)]
    many = _count_gaps(order, pages, opening, closing)
    _check(len(prices) == len(stage_links), "stages", -1)
    for at, pairs in enumerate(prices):
        balances = [balance for balance, _ in pairs]
        _check(balances == closings_of(stage_links[at]), "balances", at)
    # Before the last stage, a toll looks only at the closing of the ledger.
    told = prices[:-1] + [[(closing, 0)]]
    for at, pairs in enumerate(prices):
        low = [_is_low_enough(price, balance, stage_links, at, told, closing) for balance, price in pairs]
        _check(all(low), "price", at)
    if stage_links:
        _check(many <= toll(stage_links[0], told[0], opening), "count", many)


def vector_of(fracs):
    """A list of Fracs as a vector."""
    return {at: plain_number(frac) for at, frac in enumerate(fracs) if frac != 0}


def _has_shadow(vector, shadow, vectors):
    """Whether the vectors of some books mix to a vector by a shadow."""
    return minus(times_rows(vector_of(shadow), vectors), 1, vector) == {}


def _check_lengths(books, start, shadows, count):
    """Raises Untrue unless there are as many Fracs as there must be, for so many letters."""
    many = len(books)
    _check(len(shadows) == many, "lengths", -1)
    _check(all([len(some) == count for some in shadows]), "lengths", -1)
    sizes = [len(start)] + [len(shadow) for some in shadows for shadow in some]
    _check(all([size == many for size in sizes]), "lengths", -1)


def examine_basis(books, start, shadows, reports):
    check_question(reports)
    letters = letters_of(*reports)
    _check_lengths(books, start, shadows, len(letters))
    for at, book in enumerate(books):
        _check(len(book) == 0 or book[len(book) - 1][0] < LAST_DAY, "days", at)
    machine = joined_machine(reports)
    vectors = [machine.after_book(book) for book in books]
    _check(_has_shadow(machine.after_book(Book()), start, vectors), "start", -1)
    for at, vector in enumerate(vectors):
        told = [
            _has_shadow(machine.after_letter(vector, letter), shadow, vectors)
            for letter, shadow in zip(letters, shadows[at])
        ]
        _check(all(told), "shadow", at)


def examine_parting(book, first, second):
    _check(first(book) != second(book), "figure", -1)


def examine_sources(constant, pairs, report, book):
    right_constant, right_pairs = sources(report, book)
    full = [place for place, row in enumerate(book) if row[2] is not None]
    last = -1
    for at, (place, _) in enumerate(pairs):
        _check(place > last and place in full, "places", at)
        last = place
    _check(constant == right_constant, "constant", -1)
    told = {place: weight for place, weight in pairs}
    right = {place: weight for place, weight in right_pairs}
    for place in full:
        _check(told.get(place, 0) == right.get(place, 0), "weight", place)


def _check_sizes(wanted, told):
    check_size(wanted.size + sum([formula.size for formula in told]))


def examine_mixture(weights, wanted, told):
    _check_sizes(wanted, told)
    _check(len(weights) == len(told), "weights", -1)
    _check(same_formula(mixture_of(told, weights), wanted), "mixture", -1)


def _sum_over(pairs, formula):
    """The sum of the values of a formula over the tables of a bar."""
    return Frac.added([factor * formula(table) for factor, table in pairs])


def examine_bar(pairs, wanted, told):
    _check_sizes(wanted, told)
    tables = [list(table) for _, table in pairs]
    for at, (factor, _) in enumerate(pairs):
        _check(factor != 0 and tables[at] not in tables[:at], "table", at)
    for at, formula in enumerate(told):
        _check(_sum_over(pairs, formula) == 0, "told", at)
    _check(_sum_over(pairs, wanted) == 1, "wanted", -1)
