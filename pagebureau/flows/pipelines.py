"""Pipelines: steps that are done one after another."""

from pagebureau.base.errors import BadText, NoStep, NotStraight, TooLarge
from pagebureau.flows.steps import Step


def _read_line(line, at):
    """The step with this text, which is the line of this index."""
    try:
        return Step.read(line)
    except BadText:
        raise BadText(at) from None


def check_straight(pipeline):
    """Raises NotStraight with the index of the first step that is not straight."""
    for at, step in enumerate(pipeline):
        if not step.straight:
            raise NotStraight(at)


class Pipeline:
    """At most 8 steps; it never changes."""

    MOST = 8

    def __init__(self, steps=()):
        if len(steps) > Pipeline.MOST:
            raise TooLarge(len(steps))
        self._steps = list(steps)

    @classmethod
    def read(cls, text):
        lines = text.split("\n") if text else []
        if len(lines) > Pipeline.MOST:
            raise TooLarge(len(lines))
        return cls([_read_line(line, at) for at, line in enumerate(lines)])

    def text(self):
        return "\n".join([step.text() for step in self._steps])

    def __len__(self):
        return len(self._steps)

    def __iter__(self):
        return iter(self._steps)

    def __eq__(self, other):
        return isinstance(other, Pipeline) and self.text() == other.text()

    def __getitem__(self, at):
        if not 0 <= at < len(self._steps):
            raise NoStep(at)
        return self._steps[at]

    def __add__(self, other):
        if not isinstance(other, Pipeline):
            return NotImplemented
        return Pipeline(self._steps + other._steps)

    def without(self, at):
        if not 0 <= at < len(self._steps):
            raise NoStep(at)
        return Pipeline(self._steps[:at] + self._steps[at + 1:])

    def swapped(self, at):
        if not 0 <= at < len(self._steps) - 1:
            raise NoStep(at)
        exchanged = [self._steps[at + 1], self._steps[at]]
        return Pipeline(self._steps[:at] + exchanged + self._steps[at + 2:])

    @property
    def straight(self):
        return all([step.straight for step in self._steps])

    def __call__(self, book):
        left = book
        for step in self._steps:
            left = step(left)
        return left

    def along(self, book):
        """A generator of the books after each step."""
        left = book
        for step in self._steps:
            left = step(left)
            yield left
