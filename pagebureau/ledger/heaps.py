"""Heaps: loose pages, the stages that all their orders go through, and the price of gaps."""

from pagebureau.base.errors import BadOrder, Clash
from pagebureau.base.integers import misplaced
from pagebureau.ledger.lots import Lots


def _do_clash(one, two):
    return one.last_day > two.first_day and two.last_day > one.first_day


def check_clashes(pages, numbers):
    """Raises Clash with the lowest pair of pages that clash, of an ascending list of numbers."""
    for first in numbers:
        for second in numbers:
            if first < second and _do_clash(pages[first], pages[second]):
                raise Clash(first, second)


def stages(pages):
    check_clashes(pages, list(range(len(pages))))
    keys = [(page.first_day, page.last_day, number) for number, page in enumerate(pages)]
    found = {}
    for first_day, last_day, number in sorted(set(keys)):
        days = (first_day, last_day)
        found[days] = found.get(days, []) + [number]
    return list(found.values())


def links_of(pages, numbers):
    """The list of the links of the pages with these numbers."""
    return [(pages[number].opening, pages[number].closing) for number in numbers]


def closings_of(links):
    """The ascending list of the different closings of some links."""
    return sorted(set([closing for _, closing in links]))


def _check_order(pages, order):
    wrong = misplaced(order, len(pages))
    for at in range(1, len(order) if wrong is None else wrong):
        if pages[order[at]].first_day < pages[order[at - 1]].last_day:
            raise BadOrder(at)
    if wrong is not None:
        raise BadOrder(wrong)


def gaps(pages, opening, closing, order):
    _check_order(pages, order)
    carried = [opening, *[pages[number].closing for number in order]]
    wanted = [*[pages[number].opening for number in order], closing]
    pairs = list(zip(carried, wanted))
    return [(place, *pair) for place, pair in enumerate(pairs) if pair[0] != pair[1]]


def toll(links, told, balance):
    # With the link back from the closing to the balance, an order of the links is a ring,
    # and the shortage is the lowest number of gaps in a ring of all of them.
    return min([int(price + abs(Lots([*links, (end, balance)]))) for end, price in told])


def prices(pages, closing):
    links = []
    told = [(closing, 0)]
    found = []
    for stage in reversed(list(stages(pages))):
        later = links
        links = links_of(pages, stage)
        after = [(balance, toll(later, told, balance)) for balance in closings_of(links)]
        found = [after, *found]
        # Before the last stage, a toll looks only at the closing of the ledger.
        told = after if later else told
    return found


def told_prices(pages, closing):
    """For each stage the prices from which the toll before it follows; without stages, one such list."""
    return [*prices(pages, closing)[:-1], [(closing, 0)]]


def fewest(pages, opening, closing):
    first = stages(pages)[:1]
    links = [link for stage in first for link in links_of(pages, stage)]
    return toll(links, told_prices(pages, closing)[0], opening)
