"""Longest ways through a web of stops, numbered from 0, where every way begins.

`links` has for each stop the list of its links: tuples of the next stop, of what the link
counts, and of anything else. `ends` has for each stop the list of what ending there counts.
All that is counted is taken times a sign, 1 or -1.
"""


def _sources_of(links):
    """For each stop the list of the stops that have a link to it."""
    found = [[] for _ in links]
    for stop, some in enumerate(links):
        for link in some:
            found[link[0]].append(stop)
    return found


def with_an_end(links, ends):
    """The dict of the stops from which a way leads to an end."""
    before = _sources_of(links)
    waiting = [stop for stop, some in enumerate(ends) if some]
    found = {stop: True for stop in waiting}
    at = 0
    while at < len(waiting):
        stop = waiting[at]
        at = at + 1
        for source in before[stop]:
            if source not in found:
                found[source] = True
                waiting.append(source)
    return found


def trimmed(links, ends):
    """The links that lie on a way to an end."""
    ending = with_an_end(links, ends)
    return [[link for link in some if link[0] in ending] for some in links]


def shortest_way(links, start, goals):
    """The links of a way from a stop to one of the goals with as few links as possible; there is one."""
    before = {start: None}
    waiting = [start]
    at = 0
    while waiting[at] not in goals:
        stop = waiting[at]
        at = at + 1
        for link in links[stop]:
            if link[0] not in before:
                before[link[0]] = (stop, link)
                waiting.append(link[0])
    return _way_back(before, waiting[at])


def _way_back(before, stop):
    """The links to a stop, given for each stop the one before and the link from there."""
    found = []
    while before[stop] is not None:
        stop, link = before[stop]
        found.append(link)
    return found[::-1]


def _ring_in(before):
    """The stops of a ring of which each is before the next one, None if there is none."""
    looked_at = {}
    for start in before:
        stop = start
        while stop not in looked_at:
            looked_at[stop] = start
            if before[stop] is None:
                break
            stop = before[stop][0]
        if looked_at[stop] == start and before[stop] is not None:
            return _ring_through(before, stop)
    return None


def _ring_through(before, start):
    """The links of the ring from a stop back to it."""
    stop, link = before[start]
    found = [link]
    while stop != start:
        stop, link = before[stop]
        found.append(link)
    return found[::-1]


class Longest:
    """The ways that count most, on links that are trimmed.

    `most` is what they count with their ends, None if there is no bound.
    """

    def __init__(self, links, ends, sign):
        self._links = links
        self._ends = ends
        self._sign = sign
        self._best = {0: 0}
        # For each stop the stop before it on the best way to it, and the link from there.
        self._before = {0: None}
        self._ring = None
        changed = [0]
        while changed and self._ring is None:
            changed = self._go_on(changed)
            self._ring = _ring_in(self._before)
        self.most = self._most()

    def _go_on(self, changed):
        """Goes on from stops to which a better way was found; the list of the next ones."""
        later = {}
        for stop in changed:
            for link in self._links[stop]:
                total = self._best[stop] + self._sign * link[1]
                if link[0] not in self._best or total > self._best[link[0]]:
                    self._best[link[0]] = total
                    self._before[link[0]] = (stop, link)
                    later[link[0]] = True
        return list(later)

    def _counted(self, links):
        """What some links count together."""
        return self._sign * sum([link[1] for link in links])

    def _end_of(self, stop):
        """What ending at a stop counts at most."""
        return max([int(self._sign * end) for end in self._ends[stop]])

    def _value_at(self, stop):
        return self._best[stop] + self._end_of(stop)

    def _most(self):
        if self._ring is not None:
            return None
        values = [self._value_at(stop) for stop in self._best if self._ends[stop]]
        return max([int(value) for value in values])

    def links_for(self, count):
        """The links of a way that counts at least so many, None if there is none."""
        if self._ring is not None:
            return self._links_by_ring(count)
        if self.most < count:
            return None
        goals = [stop for stop in self._best if self._ends[stop] and self._value_at(stop) == self.most]
        return _way_back(self._before, goals[0])

    def _links_by_ring(self, count):
        """A way that goes round the ring as often as it must."""
        ring_stop = self._ring[-1][0]
        goals = {stop: True for stop, some in enumerate(self._ends) if some}
        head = shortest_way(self._links, 0, {ring_stop: True})
        tail = shortest_way(self._links, ring_stop, goals)
        last = tail[-1][0] if tail else ring_stop
        alone = self._counted(head) + self._counted(tail) + self._end_of(last)
        gain = self._counted(self._ring)
        rounds = max(0, (count - alone + gain - 1) // gain)
        return head + self._ring * rounds + tail
