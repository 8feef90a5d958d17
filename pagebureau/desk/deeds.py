"""Deeds: what they make of the holdings of a desk, which are never changed themselves."""

from pagebureau.base.errors import BadRow, ManyGaps, NoName, NoService, SameName
from pagebureau.base.rows import Book, is_row
from pagebureau.desk.history import Account
from pagebureau.ledger.mending import Mended
from pagebureau.posting.services import Store

# The first words of the deeds that are done together or tried.
WORDS = ("enter", "amend", "strike", "file", "withdraw")


def account_of(holdings, name):
    """The account of a name; raises NoName."""
    if name not in holdings.accounts:
        raise NoName(name)
    return holdings.accounts[name]


def question_of(holdings, name):
    """The question of a name; raises NoName."""
    if name not in holdings.questions_by_name:
        raise NoName(name)
    return holdings.questions_by_name[name]


def service_store(holdings, name):
    """The store of an account; raises NoName, NoService."""
    account = account_of(holdings, name)
    if account.service is None:
        raise NoService(name)
    return account.store


def begun(holdings, name, service):
    if name in holdings.accounts:
        raise SameName(name)
    store = None if service is None else Store.empty()
    return holdings.with_account(name, Account(Book(), service, store))


def entered(holdings, name, rows):
    account = account_of(holdings, name)
    return holdings.with_account(name, account.with_more(Book.of(rows)))


def amended(holdings, name, place, row):
    account = account_of(holdings, name)
    # Whether there is such a place matters before what the row is.
    day, _, _ = account.book[place]
    if not is_row(row) or row[0] != day:
        raise BadRow(place)
    rows = list(account.book)
    return holdings.with_account(name, account.with_book(Book([*rows[:place], row, *rows[place + 1:]])))


def struck(holdings, name, place):
    account = account_of(holdings, name)
    return holdings.with_account(name, account.with_book(account.book.without(place)))


def delivered(holdings, name, pages, opening, closing, most):
    """The holdings with the rows of a heap, and the heap made good."""
    account = account_of(holdings, name)
    mended = Mended(pages, opening, closing)
    if len(mended.gaps) > most:
        raise ManyGaps(len(mended.gaps))
    return holdings.with_account(name, account.with_more(mended.book)), mended


def posted(holdings, name, plan, batch):
    """The holdings with a posted batch, and the reply to it."""
    store = service_store(holdings, name)
    account = account_of(holdings, name)
    reply = plan(account.service, store, batch)
    after = Account(account.book | reply.book, account.service, reply.store)
    return holdings.with_account(name, after), reply


def withdrawn(holdings, name):
    question_of(holdings, name)
    return holdings.without_question(name)


def done(holdings, deed):
    """The holdings after a deed that is told by a tuple with one of the first words."""
    if deed[0] == "enter":
        _, name, rows = deed
        return entered(holdings, name, rows)
    if deed[0] == "amend":
        _, name, place, row = deed
        return amended(holdings, name, place, row)
    if deed[0] == "strike":
        _, name, place = deed
        return struck(holdings, name, place)
    if deed[0] == "file":
        _, name, question = deed
        return holdings.with_question(name, question)
    _, name = deed
    return withdrawn(holdings, name)
