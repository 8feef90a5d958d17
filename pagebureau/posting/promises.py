"""Promises: in what a list call is like single calls of its requests."""

from pagebureau.base.errors import BadPromise
from pagebureau.base.rows import Book
from pagebureau.posting.services import called, is_done

PROMISES = ("sequential", "daily", "serial", "truthful")


def check_promise(promise):
    """Raises BadPromise for anything that is no name of a promise."""
    if promise not in PROMISES:
        raise BadPromise(promise)


class Calls:
    """Single calls of the requests at some places of a batch, one after another."""

    def __init__(self, service, store, requests, places):
        self.answers = {}
        self.entered_rows = []
        self.store = store
        for place in places:
            answer, after = called(service, self.store, requests[place])
            self.answers[place] = answer
            self.store = after
            if is_done(answer):
                self.entered_rows.append(requests[place])

    def lead_to(self, reply):
        """Whether they return the reply's answers and lead to its store."""
        told = list(reply)
        same = [told[place] == self.answers[place] for place in self.answers]
        return all(same) and self.store == reply.store


def _counted(rows):
    """A dict from the different rows to how often they are there."""
    found = {}
    for row in rows:
        found[row] = found.get(row, 0) + 1
    return found


def _called_places(promise, reply):
    """The places of the requests that a promise has called, in order."""
    if promise in ("sequential", "daily"):
        return list(range(len(reply)))
    sequence = reply.sequence
    done = reply.done if promise == "truthful" else sequence
    return [place for place in sequence if place in done]


def _is_kept(promise, calls, reply):
    """Whether a promise is kept, given the single calls that it speaks of."""
    if not calls.lead_to(reply):
        return False
    if promise == "daily":
        return _counted(calls.entered_rows) == _counted(reply.entered)
    return promise == "truthful" or Book.of(calls.entered_rows) == reply.book


def broken(promise, service, plan, store, batch):
    check_promise(promise)
    reply = plan(service, store, batch)
    calls = Calls(service, store, list(batch), _called_places(promise, reply))
    return not _is_kept(promise, calls, reply)


def _fault(single, listed):
    """The word for two answers that differ."""
    if is_done(single) and not is_done(listed):
        return "left"
    return "extra" if is_done(listed) and not is_done(single) else "wrong"


def faults(service, plan, store, batch):
    reply = plan(service, store, batch)
    calls = Calls(service, store, list(batch), list(range(len(batch))))
    pairs = [(place, calls.answers[place], answer) for place, answer in enumerate(reply)]
    return [(place, _fault(single, listed)) for place, single, listed in pairs if single != listed]
