"""What heaps have, found by looking at all their orders one by one."""

from itertools import permutations

from pagebureau.ledger.pages import Page


def page(day, opening, closing, mark="a", last_day=None):
    """A page of one line, or of two lines if it has another last day."""
    if last_day is None:
        return Page([(day, mark, closing - opening, closing)])
    return Page([(day, mark, 0, opening), (last_day, mark, closing - opening, closing)])


def random_page(source, days, balances):
    day, opening, closing = source.choice(days), source.choice(balances), source.choice(balances)
    last_day = day + source.choice([0, 1, 1]) if source.random() < 0.25 else None
    return page(day, opening, closing, source.choice("ab"), last_day)


def random_heap(source, most):
    """Pages with an opening and a closing; the pages may clash."""
    days = source.choice([[1], [1, 2], [1, 2, 3], [1, 3, 5]])
    balances = list(range(-1, source.choice([1, 2, 3, 4])))
    pages = [random_page(source, days, balances) for _ in range(source.randint(0, most))]
    return pages, source.choice(balances), source.choice(balances)


def do_clash(one, two):
    return one.last_day > two.first_day and two.last_day > one.first_day


def clashing_pairs(pages, numbers=None):
    numbers = range(len(pages)) if numbers is None else numbers
    return [(i, j) for i in numbers for j in numbers if i < j and do_clash(pages[i], pages[j])]


def is_order(pages, order):
    days = [(pages[number].first_day, pages[number].last_day) for number in order]
    return all(later[0] >= before[1] for before, later in zip(days, days[1:]))


def all_orders(pages):
    return [list(order) for order in permutations(range(len(pages))) if is_order(pages, order)]


def gaps_of(pages, opening, closing, order):
    carried = [opening] + [pages[number].closing for number in order]
    wanted = [pages[number].opening for number in order] + [closing]
    places = range(len(order) + 1)
    return [(at, carried[at], wanted[at]) for at in places if carried[at] != wanted[at]]


def fewest_orders(pages, opening, closing):
    """The lowest number of gaps and the ascending list of the fewest orders."""
    counted = [(len(gaps_of(pages, opening, closing, order)), order) for order in all_orders(pages)]
    fewest = min(counted)[0]
    return fewest, sorted(order for many, order in counted if many == fewest)


def has_whole_order(pages, opening, closing):
    """Whether there is an order without gaps."""
    return any(not gaps_of(pages, opening, closing, order) for order in all_orders(pages))
