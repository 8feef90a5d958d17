"""Questions about the steps of a filling: which are needed, in which order, and how far they reach."""

from pagebureau.base.integers import is_plain_integer
from pagebureau.base.marks import Marks
from pagebureau.filling.fillings import Filling
from pagebureau.filling.limits import fill_text
from pagebureau.filling.race import alike_fills

_DOWNWARDS = ("down", "near_above", "near_below")
_UPWARDS = ("up", "near_above", "near_below")


def must_stay(filling):
    steps = list(filling)
    pairs = [(first, second) for second in range(len(steps)) for first in range(second)]
    staying = [pair for pair in pairs if not _may_swap(steps[pair[0]], steps[pair[1]])]
    return sorted(set(staying))


def _may_swap(one, other):
    return alike_fills(Filling([one, other]), Filling([other, one]))


def plain_order(filling):
    steps = list(filling)
    pairs = must_stay(filling)
    left = list(range(len(steps)))
    order = []
    while left:
        waiting = [second for first, second in pairs if first in left]
        free = [(fill_text(steps[at]), at) for at in left if at not in waiting]
        # Of steps with equal texts that are free, it does not matter which one comes next.
        _, following = sorted(set(free))[0]
        order.append(steps[following])
        left.remove(following)
    return Filling(order)


def needless_fills(filling):
    steps = list(filling)
    return [
        at for at in range(len(steps))
        if alike_fills(filling, Filling([*steps[:at], *steps[at + 1:]]))
    ]


def _without_halt(step, mark):
    """The fill step at which amounts do not halt at this mark."""
    way, rows, halt = step
    if mark not in halt:
        return step
    return way, rows, (Marks.read(halt) - Marks(mark)).text()


def halting(filling):
    found = Marks()
    for mark in Marks.ALL:
        other = Filling([_without_halt(step, mark) for step in filling])
        if not alike_fills(filling, other):
            found = found | Marks(mark)
    return found


class Extent:
    """How far an amount reaches: a number of rows, or endless; it never changes."""

    def __init__(self, amount=None):
        self.amount = amount

    def __eq__(self, other):
        return isinstance(other, Extent) and self.amount == other.amount

    def __lt__(self, other):
        if not isinstance(other, Extent):
            return NotImplemented
        return self.amount is not None and (other.amount is None or self.amount < other.amount)

    def __le__(self, other):
        if not isinstance(other, Extent):
            return NotImplemented
        return other.amount is None or (self.amount is not None and self.amount <= other.amount)

    def __add__(self, other):
        if not isinstance(other, Extent):
            return NotImplemented
        if self.amount is None or other.amount is None:
            return Extent()
        return Extent(self.amount + other.amount)

    def __mul__(self, other):
        if not is_plain_integer(other):
            return NotImplemented
        if other == 0:
            return Extent(0)
        return Extent(None if self.amount is None else self.amount * other)

    def __rmul__(self, other):
        return self * other


def _reach(filling, ways):
    """The extent through the steps of these ways: each goes on where the one before ended."""
    total = Extent(0)
    for way, rows, halt in filling:
        if way == "drop":
            return total
        # The marks of the rows can be such that nothing halts, unless each mark does.
        if way in ways and halt != Marks.ALL:
            total = total + Extent(rows)
    return total


def farthest(filling):
    return _reach(filling, _DOWNWARDS), _reach(filling, _UPWARDS)
