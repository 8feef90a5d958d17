"""Desks: accounts, questions about their books, and deeds that can be undone and tried."""

from pagebureau.base.errors import BadDay, BadDeed, BureauError, Refused
from pagebureau.base.integers import is_plain_integer, written
from pagebureau.base.rows import LAST_DAY
from pagebureau.desk.deeds import (
    WORDS, account_of, amended, begun, delivered, done, entered, posted, question_of, service_store, struck, withdrawn,
)
from pagebureau.desk.history import History
from pagebureau.flows.figures import Report


def _done_at(holdings, at, deed):
    """The holdings after the deed of an index in a list."""
    if deed[0] not in WORDS:
        raise BadDeed(at)
    try:
        return done(holdings, deed)
    except BureauError as error:
        raise Refused(at) from error


def _shown(value):
    """The text of an integer or a Frac."""
    return written(value) if is_plain_integer(value) else value.text()


class Desk:
    """Accounts and questions by their names, in order."""

    def __init__(self):
        self._history = History()

    @property
    def day(self):
        return self._history.seen

    @day.setter
    def day(self, value):
        self.see(value)

    def see(self, day):
        is_day = is_plain_integer(day) and 0 <= day <= LAST_DAY
        if day is not None and not is_day:
            raise BadDay(day)
        self._history.look_until(day)

    @property
    def depth(self):
        return self._history.many_deeds()

    def __len__(self):
        return len(self._history.accounts)

    def __iter__(self):
        return iter(self._history.accounts)

    def __contains__(self, x):
        return x in self._history.accounts

    def begin(self, name, service=None):
        self._history.do(begun(self._history.holdings, name, service))

    def enter(self, name, rows):
        self._history.do(entered(self._history.holdings, name, rows))

    def __iadd__(self, other):
        name, rows = other
        self.enter(name, rows)
        return self

    def amend(self, name, place, row):
        self._history.do(amended(self._history.holdings, name, place, row))

    def __setitem__(self, at, worth):
        name, place = at
        self.amend(name, place, worth)

    def __getitem__(self, at):
        name, place = at
        return self.book_of(name)[place]

    def strike(self, name, place):
        self._history.do(struck(self._history.holdings, name, place))

    def deliver(self, name, pages, opening, closing, *, most=0):
        holdings, mended = delivered(self._history.holdings, name, pages, opening, closing, most)
        self._history.do(holdings)
        return mended

    def post(self, name, plan, batch):
        holdings, reply = posted(self._history.holdings, name, plan, batch)
        self._history.do(holdings)
        return reply

    def file(self, name, question):
        self._history.do(self._history.holdings.with_question(name, question))

    def withdraw(self, name):
        self._history.do(withdrawn(self._history.holdings, name))

    def together(self, deeds):
        holdings = self._history.holdings
        for at, deed in enumerate(deeds):
            holdings = _done_at(holdings, at, deed)
        self._history.do(holdings)

    def undo(self):
        self._history.undo()

    def book_of(self, name):
        return account_of(self._history.holdings, name).book

    def store_of(self, name):
        return service_store(self._history.holdings, name)

    def questions(self):
        return list(self._history.holdings.questions_by_name)

    def _shown_books(self):
        """The books of all accounts, up to the day."""
        books = [account.book for account in self._history.accounts.values()]
        return books if self.day is None else [book.until(self.day) for book in books]

    def value(self, name):
        question = question_of(self._history.holdings, name)
        return question.on(self._shown_books()) if isinstance(question, Report) else question(self._shown_books())

    def _values(self):
        return [self.value(name) for name in self.questions()]

    def lines(self):
        return [f"{name:<16} {_shown(value):>20}" for name, value in zip(self.questions(), self._values())]

    def trial(self):
        return self._history

    def _try(self, at, deed):
        """Does the deed of an index in a list, as a deed of its own; undoing is one there."""
        if deed[0] != "undo":
            self._history.do(_done_at(self._history.holdings, at, deed))
            return
        try:
            self.undo()
        except BureauError as error:
            raise Refused(at) from error

    def tried(self, deeds):
        with self._history:
            for at, deed in enumerate(deeds):
                self._try(at, deed)
            return self._values()
