"""Fillings as points 25 to 31 tell them, row by row and turn by turn, and all small books."""

from itertools import product

from pagebureau.base.rows import Book
from pagebureau.filling.fillings import Filling

WAYS = ("down", "up", "near_above", "near_below")
DROP = ("drop", None, "-")


def can_take(rows, upper, lower, limit, halt):
    """Whether an amount may pass between these two places."""
    near = limit is None or lower - upper <= limit
    return near and not any(rows[k][1] in halt for k in range(upper + 1, lower + 1))


def taken_place(step, rows, full, place):
    """The place of the full row from which an empty row takes, or None."""
    way, limit, halt = step
    above = [k for k in range(place) if full[k]][-1:]
    below = [k for k in range(place + 1, len(rows)) if full[k]][:1]
    above = [k for k in above if way != "up" and can_take(rows, k, place, limit, halt)]
    below = [k for k in below if way != "down" and can_take(rows, place, k, limit, halt)]
    both = above + below if way != "near_below" else below + above
    return min(both, key=lambda k: abs(k - place), default=None)


def fates_by_definition(filling, rows):
    """What `trace` tells, looked up row by row."""
    fates = [("empty", None, None) if row[2] is None else ("given", k, None) for k, row in enumerate(rows)]
    for at, step in enumerate(filling):
        if step == DROP:
            return [("dropped", None, at) if fate[0] == "empty" else fate for fate in fates]
        full = [fate[1] is not None for fate in fates]
        taken = [None if full[k] else taken_place(step, rows, full, k) for k in range(len(rows))]
        before = list(fates)
        for k, place in enumerate(taken):
            if place is not None:
                fates[k] = ("filled", before[place][1], at)
    return fates


def left_by_definition(filling, rows):
    """The rows that are left."""
    left = []
    for (day, mark, _), (how, place, _) in zip(rows, fates_by_definition(filling, rows)):
        if how != "dropped":
            left.append((day, mark, None if place is None else rows[place][2]))
    return left


def random_step(source, limits=(None, 1, 2, 3), halts=("-", "-", "a", "b", "ab", "c"), drops=True):
    way = source.choice(WAYS * 3 + (("drop",) if drops else ()))
    return DROP if way == "drop" else (way, source.choice(limits), source.choice(halts))


def random_filling(source, most, **more):
    return Filling([random_step(source, **more) for _ in range(source.randint(0, most))])


def random_rows(source, most, marks="abc", amounts=(None, None, None, 0, 1, -7)):
    days = sorted(source.randint(0, 9) for _ in range(source.randint(0, most)))
    return [(day, source.choice(marks), source.choice(amounts)) for day in days]


def small_books():
    """All books of one day of up to three rows of three marks, and of four of two, the short ones first."""
    for count, marks in ((0, "a"), (1, "abc"), (2, "abc"), (3, "abc"), (4, "ac")):
        kinds = list(product(marks, (None, 0, 1)))
        for some in product(kinds, repeat=count):
            yield Book([(0, mark, amount) for mark, amount in some])


def turns_of(step):
    """The sides of the turns of a step; those of a step without a limit are only the first few."""
    way, limit, _ = step
    sides = {"down": ["above"], "up": ["below"], "near_above": ["above", "below"], "near_below": ["below", "above"]}
    return sides[way] * (limit or 3)


def spots_of(filling):
    """All spots that point 31 knows."""
    spots = []
    for at, step in enumerate(filling):
        if step == DROP:
            spots.append((at, 0))
        else:
            near = step[0].startswith("near")
            turns = (2 if near else 1) * (step[1] or 1)
            spots += [(at, turn) for turn in range(turns)]
    return spots + [(len(filling), 0)]


def event_by_turns(filling, spot, above, below):
    """The event and the new spot, found by trying turn after turn."""
    steps, edges = list(filling), {"above": above, "below": below}
    at, first = spot
    while at < len(steps):
        if steps[at] == DROP:
            return "dropped", (at, 0)
        sides = turns_of(steps[at])
        for turn in range(first, len(sides)):
            edge = edges[sides[turn]]
            if edge is not None and edge not in steps[at][2]:
                return sides[turn], spot_behind(steps[at], at, turn)
        at, first = at + 1, 0
    return "left", (len(steps), 0)


def spot_behind(step, at, turn):
    way, limit, _ = step
    if limit is None:
        return (at, (turn + 1) % 2 if way.startswith("near") else 0)
    return (at, turn + 1) if turn + 1 < len(turns_of(step)) else (at + 1, 0)


def marks_of(first, second):
    halts = "".join(step[2] for step in [*first, *second])
    return sorted(set("abcdef") & set(halts)) + [mark for mark in "abcdef" if mark not in halts][:1]


def states_by_search(first, second):
    """The set of all states that can be reached, and whether some choice parts the fillings."""
    marks = marks_of(first, second)
    seen = {((0, 0), (0, 0), above, below) for above in (None, True) for below in (None, True)}
    new, parted = list(seen), False
    while new:
        one, other, *sides = new.pop()
        for above, below in product(*[marks if side is True else [side] for side in sides]):
            event, after = event_by_turns(first, one, above, below)
            other_event, other_after = event_by_turns(second, other, above, below)
            parted = parted or event != other_event
            if event == other_event and event in ("above", "below"):
                state = (after, other_after, *((True, below) if event == "above" else (above, True)))
                if state not in seen:
                    seen.add(state)
                    new.append(state)
    return seen, parted
