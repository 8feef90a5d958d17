"""Questions about keepers, for all lists of rows.

Apart from which rows are equal, only the order of the amounts matters. Full rows are compared
with full rows by one thing after another, and so are empty ones with empty ones, so that
neither have a ring among themselves. Hence at most two of the three rows that a question
needs are full, and two amounts are enough.
"""

from pagebureau.base.marks import Marks
from pagebureau.keeping.keepers import kept_places


def _all_rows():
    return [(0, mark, amount) for mark in Marks.ALL for amount in (None, 0, 1)]


def _kept(keeper, rows):
    return [rows[place] for place in kept_places(keeper, rows)]


def _open_pair(rule):
    """Two different rows that are open, None if there are none."""
    rows = _all_rows()
    for first in rows:
        for second in rows:
            if first != second and rule(first, second) == 0:
                return [first, second]
    return None


def _ring_from(rule, rows, start):
    """The fewest rows from this one on of which each is beaten by the next, and the last by the first.

    It is None if there is no such list.
    """
    seen = {start}
    trails = [[start]]
    walked = 0
    while walked < len(trails):
        trail = trails[walked]
        walked = walked + 1
        for row in [each for each in rows if rule(each, trail[-1]) == 1]:
            if row == start:
                return trail
            if row not in seen:
                seen.add(row)
                trails.append([*trail, row])
    return None


def _ring(rule):
    """The fewest rows of which each is beaten by the next, and the last by the first, or None.

    Of full rows that stand side by side in a shortest ring there are at most two, and beside
    empty rows their amounts do not matter: two amounts are enough here, too.
    """
    rows = _all_rows()
    rings = [_ring_from(rule, rows, start) for start in rows]
    return min([ring for ring in rings if ring is not None], key=len, default=None)


def steady(keeper):
    if keeper.manner == "none":
        return None
    pair = _open_pair(keeper.rule)
    if pair is not None:
        return pair, [0, 1], [1, 0]
    # If no different rows are open, a shortest ring has three rows. The last of them in
    # stored order is kept if they stand as in the ring, wherever that begins. Without a
    # ring, one row beats all others.
    ring = _ring(keeper.rule)
    return None if ring is None else (ring, [0, 1, 2], [1, 2, 0])


def lost(keeper):
    return _ring(keeper.rule) if keeper.manner == "none" else None


def same_kept(first, second):
    # If two keepers keep the same of all pairs of rows, then both have manner "none" and
    # rows beat the same rows, or both keep one row, and go on from it to the same one.
    rows = _all_rows()
    for one in rows:
        for two in rows:
            if _kept(first, [one, two]) != _kept(second, [one, two]):
                return [one, two]
    return None


def kept_up(keeper):
    # The other manners go on from the kept row alone. With "none", a row that was left out is
    # missed only if it beats a row that is not beaten by the one by which it was beaten.
    if keeper.manner != "none":
        return None
    rule, rows = keeper.rule, _all_rows()
    beats = {(one, two): rule(one, two) == 1 for one in rows for two in rows}
    for first, second in [pair for pair in beats if beats[pair]]:
        for third in rows:
            if beats[second, third] and not beats[first, third]:
                return [[first, second], [third]]
    return None
