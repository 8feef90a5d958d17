"""Keepers: which rows of each day are kept."""

from pagebureau.base.errors import BadManner, BadOrder, BadText
from pagebureau.base.integers import misplaced
from pagebureau.base.rows import Book, check_rows
from pagebureau.keeping.rules import Rule

_FOR_RANKED_RULES = ("first", "last")


class Keeper:
    """A manner of keeping and a rule; it never changes."""

    MANNERS = ("over", "hold", "none", "first", "last")

    def __init__(self, manner, rule):
        known = manner in Keeper.MANNERS
        if not known or (manner in _FOR_RANKED_RULES and not rule.ranked):
            raise BadManner(manner)
        self.manner = manner
        self.rule = rule

    @classmethod
    def read(cls, text):
        manner, colon, rule = text.partition(": ")
        if colon == "":
            raise BadText(0)
        return cls(manner, Rule.read(rule))

    def text(self):
        return f"{self.manner}: {self.rule.text()}"

    @property
    def straight(self):
        return self.rule.straight and self.manner != "none"

    def __call__(self, book):
        rows = list(book)
        return Book([rows[place] for place in kept_places(self, rows)])

    def __eq__(self, other):
        return isinstance(other, Keeper) and self.manner == other.manner and self.rule == other.rule


def is_replaced(keeper, kept, row):
    """Whether a later row takes the place of the only one that a keeper has kept of their day."""
    # With a ranked rule, "first" keeps the same as "over", and "last" the same as "hold".
    if keeper.manner in ("over", "first"):
        return keeper.rule(row, kept) == 1
    return keeper.rule(kept, row) != 1


class Shelf:
    """What a keeper keeps of rows that come one after another."""

    def __init__(self, keeper):
        self._keeper = keeper
        # Dicts from days: the rows that can still beat others, and the kept ones with their places.
        self._seen = {}
        self._kept = {}

    def take(self, place, row):
        """Takes the next row in stored order."""
        day = row[0]
        if self._keeper.manner == "none":
            self._take_beside(day, place, row)
        elif day not in self._kept or is_replaced(self._keeper, self._kept[day][0][1], row):
            self._kept[day] = [(place, row)]

    def _take_beside(self, day, place, row):
        rule = self._keeper.rule
        seen = self._seen.get(day, [])
        kept = [pair for pair in self._kept.get(day, []) if rule(row, pair[1]) != 1]
        if all([rule(other, row) != 1 for other in seen]):
            kept.append((place, row))
        self._kept[day] = kept
        self._seen[day] = [*seen, row]

    def forget(self):
        """Forgets the rows that are not kept."""
        self._seen = {day: [row for _, row in self._kept[day]] for day in self._seen}

    def places(self):
        """The ascending list of the places of the kept rows."""
        return sorted(set([place for kept in self._kept.values() for place, _ in kept]))


def kept_places(keeper, rows, order=None):
    check_rows(rows)
    stored = list(range(len(rows))) if order is None else order
    wrong = misplaced(stored, len(rows))
    if wrong is not None:
        raise BadOrder(wrong)
    shelf = Shelf(keeper)
    for place in stored:
        shelf.take(place, rows[place])
    return shelf.places()


def kept_along(keeper, rows):
    taken = list(rows)
    check_rows(taken)
    shelf = Shelf(keeper)
    for place, row in enumerate(taken):
        shelf.take(place, row)
        yield shelf.places()


def keep_up(keeper, batches):
    check_rows([row for batch in batches for row in batch])
    shelf = Shelf(keeper)
    place = 0
    for batch in batches:
        for row in batch:
            shelf.take(place, row)
            place = place + 1
        shelf.forget()
    return shelf.places()
