"""The kinds of papers: what they tell, their texts, and how they are examined."""

from pagebureau.base.errors import BadText
from pagebureau.base.marks import Marks
from pagebureau.judge.bases import as_frac
from pagebureau.papers.examining import (
    examine_bar, examine_basis, examine_mixture, examine_order, examine_parting, examine_sources,
)
from pagebureau.papers.wording import (
    book_word, check_end, frac_words, line_of, number_words, read_bar, read_basis, read_book, read_fracs, read_order,
    read_sources,
)


def _fracs(numbers):
    return [as_frac(number) for number in numbers]


class Paper:
    """The evidence for an answer."""

    @staticmethod
    def read(text):
        lines = text.split("\n")
        if lines[0] == OrderPaper.KIND:
            order, prices = read_order(lines)
            return OrderPaper(order, prices)
        if lines[0] == BasisPaper.KIND:
            books, start, shadows = read_basis(lines)
            return BasisPaper(books, start, shadows)
        if lines[0] == SourcesPaper.KIND:
            constant, weights = read_sources(lines)
            return SourcesPaper(constant, weights)
        if lines[0] == BarPaper.KIND:
            return BarPaper(read_bar(lines))
        return _read_short(lines)


def _read_short(lines):
    """The paper of one of the kinds with a single line behind the first one."""
    if lines[0] == PartingPaper.KIND:
        paper = PartingPaper(read_book(lines, 1))
    elif lines[0] == MixturePaper.KIND:
        paper = MixturePaper(read_fracs(lines, 1, "weights"))
    else:
        raise BadText(0)
    check_end(lines, 2)
    return paper


class OrderPaper(Paper):
    """An order with the fewest gaps, and the prices of balances."""

    KIND = "order"

    def __init__(self, order, prices):
        self.order = list(order)
        self.prices = [[(balance, price) for balance, price in told] for told in prices]

    def text(self):
        lines = [OrderPaper.KIND, line_of("order", number_words(self.order))]
        for told in self.prices:
            lines.append(line_of("prices", number_words([number for pair in told for number in pair])))
        return "\n".join(lines)

    def examine(self, *question):
        pages, opening, closing = question
        examine_order(self.order, self.prices, pages, opening, closing)

    def __eq__(self, other):
        return isinstance(other, Paper) and self.text() == other.text()


class BasisPaper(Paper):
    """Books, a shadow of the empty book, and for each book the shadows of what is grown from it."""

    KIND = "basis"

    def __init__(self, books, start, shadows):
        self.books = list(books)
        self.start = _fracs(start)
        self.shadows = [[_fracs(shadow) for shadow in some] for some in shadows]

    def text(self):
        lines = [BasisPaper.KIND, line_of("start", frac_words(self.start))]
        for book, some in zip(self.books, self.shadows):
            lines.append(line_of("book", [book_word(book)]))
            for shadow in some:
                lines.append(line_of("shadow", frac_words(shadow)))
        return "\n".join(lines)

    def examine(self, *question):
        examine_basis(self.books, self.start, self.shadows, question)

    def __eq__(self, other):
        return isinstance(other, Paper) and self.text() == other.text()


class PartingPaper(Paper):
    """A book on which two figures differ."""

    KIND = "parting"

    def __init__(self, book):
        self.book = book

    def text(self):
        return "\n".join([PartingPaper.KIND, line_of("book", [book_word(self.book)])])

    def examine(self, *question):
        first, second = question
        examine_parting(self.book, first, second)

    def __eq__(self, other):
        return isinstance(other, Paper) and self.text() == other.text()


class SourcesPaper(Paper):
    """A constant, and the weights of amounts by their places."""

    KIND = "sources"

    def __init__(self, constant, weights):
        self.constant = constant
        self.weights = [(place, weight) for place, weight in weights]

    def text(self):
        lines = [SourcesPaper.KIND, line_of("constant", number_words([self.constant]))]
        for place, weight in self.weights:
            lines.append(line_of("weight", number_words([place, weight])))
        return "\n".join(lines)

    def examine(self, *question):
        report, book = question
        examine_sources(self.constant, self.weights, report, book)

    def __eq__(self, other):
        return isinstance(other, Paper) and self.text() == other.text()


class MixturePaper(Paper):
    """The weights with which told formulas add up to a wanted one."""

    KIND = "mixture"

    def __init__(self, weights):
        self.weights = _fracs(weights)

    def text(self):
        return "\n".join([MixturePaper.KIND, line_of("weights", frac_words(self.weights))])

    def examine(self, *question):
        wanted, told = question
        examine_mixture(self.weights, wanted, told)

    def __eq__(self, other):
        return isinstance(other, Paper) and self.text() == other.text()


class BarPaper(Paper):
    """Factors and tables that show that a wanted formula is no mixture of told ones."""

    KIND = "bar"

    def __init__(self, bar):
        self.bar = [(as_frac(factor), table & Marks(Marks.ALL)) for factor, table in bar]

    def text(self):
        lines = [BarPaper.KIND]
        for factor, table in self.bar:
            lines.append(line_of("table", frac_words([factor]) + number_words(list(table))))
        return "\n".join(lines)

    def examine(self, *question):
        wanted, told = question
        examine_bar(self.bar, wanted, told)

    def __eq__(self, other):
        return isinstance(other, Paper) and self.text() == other.text()
