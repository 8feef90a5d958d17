"""Fewest orders: which there are, what follows in them, and what is lost in them."""

from pagebureau.base.errors import NoPage
from pagebureau.base.integers import is_plain_integer
from pagebureau.ledger.heaps import closings_of, links_of, stages, told_prices, toll


def _turned(links):
    return [(closing, opening) for opening, closing in links]


def _told_before(stage_links, opening):
    """For each stage, and for what is behind all, pairs of a balance and its price.

    Turned round, the heap and its orders have the same gaps, so that the price of carrying
    a balance into a stage is a toll, too.
    """
    told = [[(opening, 0)]]
    for links in stage_links:
        before = told[-1]
        ends = closings_of(links)
        told.append([(end, toll(_turned(links), before, end)) for end in ends])
    return told


class Ways:
    """The ways through a heap without clashes that have the fewest gaps.

    Beside the numbers of the pages, None stands for what is before all pages, and the
    number of pages for what is behind them.
    """

    def __init__(self, pages, opening, closing):
        self.many_pages = len(pages)
        self._stages = stages(pages)
        self._after = told_prices(pages, closing)
        self._before = _told_before([links_of(pages, stage) for stage in self._stages], opening)
        self._fewest = toll([], self._before[-1], closing)
        self._carried = {None: opening}
        self._wanted = {len(pages): closing}
        for number, page in enumerate(pages):
            self._carried[number] = page.closing
            self._wanted[number] = page.opening
        self._stage_of = {None: -1, len(pages): len(self._stages)}
        for at, stage in enumerate(self._stages):
            for number in stage:
                self._stage_of[number] = at
        self._known = {}

    def _links_with(self, numbers):
        return [(self._wanted[number], self._carried[number]) for number in numbers]

    def _others(self, numbers):
        """The links of the other pages of the stage of some pages."""
        stage = self._stages[self._stage_of[numbers[0]]]
        return self._links_with([number for number in stage if number not in numbers])

    def _gap(self, first, second):
        return int(self._carried[first] != self._wanted[second])

    def lowest(self):
        """The lowest fewest order."""
        order = []
        while len(order) < self.many_pages:
            order.append(self.choices(order)[0])
        return order

    def choices(self, order):
        """The ascending list of the numbers that come next in fewest orders that begin so."""
        for at, stage in enumerate(self._stages):
            rest = [number for number in stage if number not in order]
            if rest:
                return self._choices_of(at, rest, order[-1] if order else None)
        return []

    def _choices_of(self, at, rest, last):
        key = (self._carried[last], tuple(rest))
        if key not in self._known:
            costs = [self._cost_next(at, rest, last, number) for number in rest]
            least = min([int(cost) for cost in costs])
            self._known[key] = [number for number, cost in zip(rest, costs) if cost == least]
        return self._known[key]

    def _cost_next(self, at, rest, last, number):
        """The fewest gaps to come when, of the rest of a stage, this page is next."""
        links = self._links_with([other for other in rest if other != number])
        return self._gap(last, number) + toll(links, self._after[at], self._carried[number])

    def next_to(self, number):
        """The ascending list of what follows the page with this number in fewest orders."""
        return [other for other in range(self.many_pages + 1) if self._follows(number, other)]

    def _follows(self, first, second):
        stage, next_stage = self._stage_of[first], self._stage_of[second]
        if stage == next_stage and first != second:
            cost = self._cost_joined(first, second)
        elif stage + 1 == next_stage:
            cost = self._cost_until(first) + self._cost_from(second)
        else:
            return False
        return cost + self._gap(first, second) == self._fewest

    def _cost_joined(self, first, second):
        """The fewest other gaps when two pages of a stage are joined to one."""
        at = self._stage_of[first]
        links = self._others([first, second]) + [(self._wanted[first], self._carried[second])]
        return min([int(cost + toll(links, self._after[at], end)) for end, cost in self._before[at]])

    def _cost_until(self, number):
        """The fewest gaps before a page that is the last one of its stage."""
        if number is None:
            return 0
        before = self._before[self._stage_of[number]]
        return toll(_turned(self._others([number])), before, self._wanted[number])

    def _cost_from(self, number):
        """The fewest gaps behind a page that is the first one of its stage."""
        if number == self.many_pages:
            return 0
        after = self._after[self._stage_of[number]]
        return toll(self._others([number]), after, self._carried[number])

    def losses_behind(self, number):
        """The pairs of the balances of the gaps behind this page in fewest orders."""
        carried = self._carried[number]
        wanted = [self._wanted[other] for other in self.next_to(number)]
        return [(carried, balance) for balance in wanted if balance != carried]

    def _is_last(self, number):
        """Whether the page is the last one of its stage in a fewest order."""
        after = self._after[self._stage_of[number]]
        return self._cost_until(number) + toll([], after, self._carried[number]) == self._fewest

    def ends(self):
        """For each stage the closings of the pages that are last in it in fewest orders."""
        last = [[number for number in stage if self._is_last(number)] for stage in self._stages]
        return [closings_of(self._links_with(numbers)) for numbers in last]


def first_order(pages, opening, closing):
    return Ways(pages, opening, closing).lowest()


def has_one_order(pages, opening, closing):
    """Whether the heap has exactly one fewest order."""
    ways = Ways(pages, opening, closing)
    order = ways.lowest()
    return all([len(ways.choices(order[:at])) == 1 for at in range(len(order))])


def orders(pages, opening, closing):
    ways = Ways(pages, opening, closing)
    yield from _orders_from(ways, [])


def _orders_from(ways, order):
    if len(order) == ways.many_pages:
        # The next orders come from this list, whatever is done to the one that is yielded.
        yield list(order)
    for number in ways.choices(order):
        longer = [*order, number]
        yield from _orders_from(ways, longer)


def followers(pages, opening, closing, number=None):
    if number is not None and not (is_plain_integer(number) and 0 <= number < len(pages)):
        raise NoPage(number)
    return Ways(pages, opening, closing).next_to(number)


def losses(pages, opening, closing):
    ways = Ways(pages, opening, closing)
    numbers = [None, *list(range(len(pages)))]
    return sorted(set([pair for number in numbers for pair in ways.losses_behind(number)]))


def stage_ends(pages, opening, closing):
    return Ways(pages, opening, closing).ends()
