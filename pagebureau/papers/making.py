"""Making papers: the evidence for answers that the earlier parts find."""

from pagebureau.base.rows import Book
from pagebureau.flows.sources import sources
from pagebureau.judge.alike import parting
from pagebureau.judge.bases import Basis
from pagebureau.judge.letters import letters_of
from pagebureau.ledger.heaps import prices
from pagebureau.ledger.orders import first_order
from pagebureau.papers.kinds import BarPaper, BasisPaper, MixturePaper, OrderPaper, PartingPaper, SourcesPaper
from pagebureau.shares.mixing import bar, weights


def order_paper(pages, opening, closing):
    return OrderPaper(first_order(pages, opening, closing), prices(pages, closing))


def basis_paper(*reports):
    basis = Basis(*reports)
    matrices = [basis.matrix(letter) for letter in letters_of(*reports)]
    shadows = [[matrix[at] for matrix in matrices] for at in range(len(basis))]
    return BasisPaper(list(basis), basis.shadow(Book()), shadows)


def likeness_paper(first, second):
    book = parting(first, second)
    return basis_paper(first, second) if book is None else PartingPaper(book)


def sources_paper(report, book):
    constant, pairs = sources(report, book)
    return SourcesPaper(constant, pairs)


def mixing_paper(wanted, told):
    found = weights(wanted, told)
    return BarPaper(bar(wanted, told)) if found is None else MixturePaper(found)
