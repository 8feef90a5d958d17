"""What a desk holds, and what it held before its deeds and trials."""

from pagebureau.base.errors import NothingToUndo


class Account:
    """A book, and a service with a store, or None for both; it never changes."""

    def __init__(self, book, service, store):
        self.book = book
        self.service = service
        self.store = store

    def with_book(self, book):
        """The account with another book."""
        return Account(book, self.service, self.store)

    def with_more(self, book):
        """The account into whose book the rows of another one come."""
        return self.with_book(self.book | book)


class Holdings:
    """The accounts and the questions of a desk, two dicts by their names; they never change."""

    def __init__(self, accounts, questions_by_name):
        self.accounts = accounts
        self.questions_by_name = questions_by_name

    def with_account(self, name, account):
        """The holdings with an account, which stands last if its name is new."""
        return Holdings({**self.accounts, name: account}, self.questions_by_name)

    def with_question(self, name, question):
        """The holdings with a question, which stands last if its name is new."""
        return Holdings(self.accounts, {**self.questions_by_name, name: question})

    def without_question(self, name):
        """The holdings without a question."""
        left = {other: question for other, question in self.questions_by_name.items() if other != name}
        return Holdings(self.accounts, left)


class Moment:
    """The holdings before a deed, and the moments before; it never changes.

    `many` is the number of the moments up to this one.
    """

    def __init__(self, holdings, past):
        self.holdings = holdings
        self.past = past
        self.many = 1 if past is None else past.many + 1


class Outside:
    """What a history was before a trial; it never changes."""

    def __init__(self, history):
        self.accounts = history.accounts
        self.holdings = history.holdings
        self.past = history.past
        self.seen = history.seen
        self.outside = history.outside


class History:
    """The holdings of a desk, its day, and the moments before its deeds.

    In a `with` statement it is a trial: then it knows only the moments of the trial, and at
    the end all is as it was before.
    """

    def __init__(self):
        self.holdings = Holdings({}, {})
        # The same accounts once more, for those who want to iterate over their names.
        self.accounts = {}
        self.seen = None
        self.past = None
        self.outside = None

    def do(self, holdings):
        """A deed leaves these holdings."""
        self.past = Moment(self.holdings, self.past)
        self.holdings = holdings
        self.accounts = holdings.accounts

    def undo(self):
        if self.past is None:
            raise NothingToUndo()
        self.holdings = self.past.holdings
        self.accounts = self.holdings.accounts
        self.past = self.past.past

    def look_until(self, day):
        """Sets the last day that is seen, None for all days."""
        self.seen = day

    def many_deeds(self):
        """The number of the deeds that can be undone."""
        return 0 if self.past is None else self.past.many

    def __enter__(self):
        self.outside = Outside(self)
        self.past = None
        return self

    def __exit__(self, kind, value, trace):
        self.accounts = self.outside.accounts
        self.holdings = self.outside.holdings
        self.past = self.outside.past
        self.seen = self.outside.seen
        self.outside = self.outside.outside
