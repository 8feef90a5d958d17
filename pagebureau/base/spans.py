"""Spans: all fractional combinations of some vectors of integers."""

from math import gcd, lcm

from pagebureau.base.errors import BadVector
from pagebureau.base.integers import is_plain_integer


def _is_vector(thing):
    return isinstance(thing, tuple) and all([is_plain_integer(entry) for entry in thing])


def head_of(vector):
    """The index of the first entry other than 0, the size if there is none."""
    for at, entry in enumerate(vector):
        if entry != 0:
            return at
    return len(vector)


def _primitive(vector, head):
    """The vector without a common divisor, with a positive entry at its head."""
    common = vector[head]
    for entry in vector:
        common = gcd(common, entry)
        if common == 1:
            break
    if vector[head] < 0:
        common = -common
    return tuple(vector) if common == 1 else tuple([entry // common for entry in vector])


def _mixed(parts, at):
    return sum([times * vector[at] for times, vector in parts])


def _reduced(frame, vector):
    """A multiple of the vector less vectors of the frame, with 0 at all their heads."""
    heads = [head for head in frame if vector[head] != 0]
    scale = 1
    for head in heads:
        whole = frame[head][head]
        scale = lcm(scale, whole // gcd(whole, vector[head]))
    parts = [(scale * vector[head] // frame[head][head], frame[head]) for head in heads]
    return [
        0 if at in frame else scale * entry - _mixed(parts, at)
        for at, entry in enumerate(vector)
    ]


def _cleared(vector, head, new, at):
    """A vector of a frame, mixed with the new one so that it has 0 at the head of that."""
    if vector[at] == 0:
        return vector
    common = gcd(vector[at], new[at])
    scale, times = new[at] // common, vector[at] // common
    mixture = [scale * entry - times * other for entry, other in zip(vector, new)]
    return _primitive(mixture, head)


def _grown(frame, vector):
    """The frame when the vector has come to its span, a dict of vectors by their heads."""
    rest = _reduced(frame, vector)
    head = head_of(rest)
    if head == len(rest):
        return frame
    new = _primitive(rest, head)
    grown = {}
    for at in sorted(set([*frame, head])):
        grown[at] = new if at == head else _cleared(frame[at], at, new, head)
    return grown


class Span:
    """The span of some vectors of one size; only `grow` changes it.

    `frame` is for this file alone: the vectors of a frame, in the order of their heads.
    """

    def __init__(self, size, frame=()):
        self.size = size
        self._frame = {head_of(vector): vector for vector in frame}

    def grow(self, vector):
        if len(vector) != self.size:
            raise BadVector(len(vector))
        count = len(self._frame)
        self._frame = _grown(self._frame, vector)
        return len(self._frame) > count

    def __contains__(self, x):
        if len(x) != self.size:
            raise BadVector(len(x))
        return _is_vector(x) and head_of(_reduced(self._frame, x)) == self.size

    def __len__(self):
        return len(self._frame)

    def __iter__(self):
        return iter(self._frame.values())

    def __add__(self, other):
        if other.size != self.size:
            raise BadVector(other.size)
        frame = self._frame
        for vector in other:
            frame = _grown(frame, vector)
        return Span(self.size, list(frame.values()))

    def __eq__(self, other):
        return isinstance(other, Span) and self.size == other.size and self._frame == other._frame
