"""Rules and keepers as points 20 to 23 tell them, and all small lists of rows."""

from itertools import combinations_with_replacement, permutations, product

from pagebureau.keeping.keepers import Keeper
from pagebureau.keeping.rules import Rule

ALL = "abcdef"
OTHER_TERMS = [("full",), ("empty",)] + [(word, lacks) for word in ("most", "least") for lacks in ("skip", "stop")]
ROWS = [(0, mark, amount) for mark in ALL for amount in (None, 0, 1)]


def random_term(source):
    if source.random() < 0.4:
        return ("in", "".join(mark for mark in ALL if source.random() < 0.5) or "-")
    return source.choice(OTHER_TERMS)


def random_terms(source, most=6):
    return [random_term(source) for _ in range(source.randint(0, most))]


def tells(wanted, first, second):
    return int(wanted(first)) - int(wanted(second))


def wins(terms, first, second):
    """1, -1 or 0, as point 20 tells."""
    for word, *more in terms:
        if word in ("most", "least"):
            if first[2] is None or second[2] is None:
                if more == ["stop"]:
                    return 0
                continue
            sign = (first[2] > second[2]) - (first[2] < second[2])
            sign = sign if word == "most" else -sign
        elif word == "in":
            sign = tells(lambda row: row[1] in more[0], first, second)
        else:
            sign = tells(lambda row: (row[2] is not None) == (word == "full"), first, second)
        if sign:
            return sign
    return 0


def kept_of_day(manner, terms, places, rows):
    """The places kept of the places of one day in stored order."""
    if manner in ("over", "hold"):
        kept = places[0]
        for place in places[1:]:
            sign = wins(terms, rows[place], rows[kept])
            if sign == 1 or (sign == 0 and manner == "hold"):
                kept = place
        return [kept]
    unbeaten = [k for k in places if not any(wins(terms, rows[other], rows[k]) == 1 for other in places)]
    if manner == "none":
        return unbeaten
    return unbeaten[:1] if manner == "first" else unbeaten[-1:]


def kept_by_search(keeper, rows, order=None):
    """The ascending list of the places that are kept."""
    terms, stored = list(keeper.rule), range(len(rows)) if order is None else order
    kept = []
    for day in {row[0] for row in rows}:
        places = [place for place in stored if rows[place][0] == day]
        kept += kept_of_day(keeper.manner, terms, places, rows)
    return sorted(kept)


def kept_rows(keeper, rows):
    return [rows[place] for place in kept_by_search(keeper, rows)]


def kept_in_batches(keeper, batches):
    left = []
    for batch in batches:
        left = kept_rows(keeper, left + list(batch))
    return left


def keepers_of(terms):
    """The keepers of all manners that the rule is for."""
    rule = Rule(terms)
    manners = Keeper.MANNERS if rule.ranked else Keeper.MANNERS[:3]
    return [Keeper(manner, rule) for manner in manners]


def lists_of(count, rows=None):
    return [list(some) for some in product(ROWS if rows is None else rows, repeat=count)]


def bags_of(count, rows=None):
    return [list(some) for some in combinations_with_replacement(ROWS if rows is None else rows, count)]


def is_steady_on(keeper, rows):
    as_kept = {tuple(sorted(map(repr, kept_rows(keeper, order)))) for order in permutations(rows)}
    return len(as_kept) == 1


def is_kept_up_on(keeper, rows):
    whole = kept_rows(keeper, rows)
    return all(kept_in_batches(keeper, [rows[:cut], rows[cut:]]) == whole for cut in range(len(rows) + 1))
