"""Lots: the balances that links join, and how much is short in them."""

from pagebureau.base.integers import is_plain_integer


def _excesses_of(links):
    """A dict from each balance of the links to its excess."""
    excesses = {}
    for opening, closing in links:
        excesses[opening] = excesses.get(opening, 0) + 1
        excesses[closing] = excesses.get(closing, 0) - 1
    return excesses


def _root(parents, balance):
    while parents[balance] != balance:
        balance = parents[balance]
    return balance


def _roots_of(links):
    """A dict from each balance of the links to one that stands for its lot."""
    parents = {}
    for opening, closing in links:
        for balance in (opening, closing):
            if balance not in parents:
                parents[balance] = balance
        parents[_root(parents, closing)] = _root(parents, opening)
    return {balance: _root(parents, balance) for balance in parents}


def _lots_of(excesses, roots):
    """The list of the lots, by their lowest balances; the balances of one have one root."""
    lots = {}
    for balance in sorted(set(list(excesses))):
        lot = lots.get(roots[balance], ())
        lots[roots[balance]] = (*lot, (balance, excesses[balance]))
    return list(lots.values())


def _positive(lot):
    """The sum of the positive excesses of a lot."""
    return sum([excess for _, excess in lot if excess > 0])


class Lots:
    """The lots of some links; they never change."""

    def __init__(self, links):
        self._links = list(links)
        self._excesses = _excesses_of(links)
        self._lots = _lots_of(self._excesses, _roots_of(links))

    @classmethod
    def of(cls, *pages):
        return cls([(page.opening, page.closing) for page in pages])

    def __iter__(self):
        return iter(self._lots)

    def __len__(self):
        return len(self._lots)

    def __contains__(self, x):
        return is_plain_integer(x) and x in self._excesses

    def __getitem__(self, at):
        return self._excesses[at] if at in self else 0

    def __add__(self, other):
        return Lots(self._links + other._links)

    def __neg__(self):
        return Lots([(closing, opening) for opening, closing in self._links])

    def __eq__(self, other):
        return isinstance(other, Lots) and self._lots == other._lots

    def __abs__(self):
        if len(self._lots) == 1:
            return _positive(self._lots[0])
        return sum([max(1, _positive(lot)) for lot in self._lots])


def parting_links(first, second):
    if first == second:
        return None
    balances = _balances(first, second)
    if any([first[balance] != second[balance] for balance in balances]):
        # Joined in one lot and levelled, the first one has nothing short, the second has.
        return _ring(balances) + _levelling([pair for lot in first for pair in lot])
    for balance in balances:
        if (balance in first) != (balance in second):
            return _links_for_absence(first, second, balances, balance)
    return _links_for_joining(first, second, balances)


def _balances(first, second):
    """The ascending list of all balances of both."""
    return sorted(set([balance for lot in [*first, *second] for balance, _ in lot]))


def _unused(balances):
    balance = 0
    while balance in balances:
        balance = balance + 1
    return balance


def _ring(balances):
    """Links that join the balances and change no excess."""
    return [(balances[at - 1], balances[at]) for at in range(len(balances))]


def _levelling(pairs):
    """Links after which each of the excesses, which add up to 0, is 0."""
    above = [balance for balance, excess in pairs for _ in range(excess)]
    below = [balance for balance, excess in pairs for _ in range(-excess)]
    return list(zip(below, above))


def _are_parted(first, second, links):
    more = Lots(links)
    return abs(first + more) != abs(second + more)


def _links_for_absence(first, second, balances, balance):
    """Links for lots with equal excesses of which one lacks a balance.

    A ring makes one lot of all other balances. Where this one stands alone, it is one lot
    more in the one that has it. Where it does not, a link of its own makes it one lot more
    in the one that lacks it.
    """
    others = [each for each in balances if each != balance]
    ring = _ring([*others, _unused(balances)])
    if _are_parted(first, second, ring):
        return ring
    return ring + [(balance, balance)]


def _links_for_joining(first, second, balances):
    """Links for lots with equal excesses of the same balances, which are joined otherwise.

    Some lot of one is joined in the other one to balances outside of it. If it is levelled
    and all others are joined, it counts 1 where it stands alone, and 0 where it does not.
    """
    for lot in [*first, *second]:
        inside = [balance for balance, _ in lot]
        outside = [balance for balance in balances if balance not in inside]
        links = _ring(inside) + _ring(outside) + _levelling(lot)
        if _are_parted(first, second, links):
            return links
    return None
