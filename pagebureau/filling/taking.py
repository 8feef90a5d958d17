"""What fill steps do to rows: which empty row takes its amount from which full row.

A full row is told by its source, the place of the row that had its amount at first; the
source of an empty row is None.
"""


def _offers(step, borders, sources):
    """For each row, in the order of walking, what the nearest full row on the way here offers it.

    This is a pair of the distance and the source of that row, None if the row cannot take
    from it. A border is the mark of the lower row of a row and the one walked before.
    """
    _, rows, halt = step
    offers = []
    offer = None
    for border, source in zip(borders, sources):
        if source is not None:
            offer = (0, source)
        elif offer is not None:
            too_far = rows is not None and offer[0] == rows
            offer = None if border in halt or too_far else (offer[0] + 1, offer[1])
        offers.append(offer)
    return offers


def _chosen(way, above, below):
    """The one of two offers, of which either may be None, that a row takes."""
    if way == "down":
        return above
    if way == "up":
        return below
    if above is None or below is None:
        return below if above is None else above
    if above[0] == below[0]:
        return above if way == "near_above" else below
    return above if above[0] < below[0] else below


def _sources_after(step, marks, sources):
    """The sources after a fill step that is no drop."""
    above = _offers(step, marks, sources)
    # Walking up, the lower one of two rows is the one walked before; before the last row is none.
    upwards = _offers(step, [".", *marks[:0:-1]], sources[::-1])
    chosen = [_chosen(step[0], one, other) for one, other in zip(above, upwards[::-1])]
    return [None if offer is None else offer[1] for offer in chosen]


def fates(steps, rows):
    """For each row the tuple that tells what some fill steps, one after another, make of it."""
    marks = [row[1] for row in rows]
    sources = [None if row[2] is None else place for place, row in enumerate(rows)]
    found = [("empty", None, None) if row[2] is None else ("given", place, None) for place, row in enumerate(rows)]
    for at, step in enumerate(steps):
        if step[0] == "drop":
            # Behind a drop no row is empty.
            return [("dropped", None, at) if fate[1] is None else fate for fate in found]
        sources = _sources_after(step, marks, sources)
        found = [
            ("filled", source, at) if fate[1] is None and source is not None else fate
            for fate, source in zip(found, sources)
        ]
    return found
