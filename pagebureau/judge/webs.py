"""Webs: all that straight steps can be in while rows come, amount by amount.

A place in the web of a pipeline is a tuple of what its steps are in: for each step a tuple of
its state, the amount that it holds, and the amount that it has promised. A sign is a pair
here: "+" and None where a new day begins, or a mark and an amount. A course is a pair of a
place and the tuple of the signs that have come out on the way to it.
"""

from pagebureau.flows.steps import Against, Times
from pagebureau.judge.ways import NEW_DAY, ways_of

_BEGIN = (None, 0, None)


def _name_of(sign):
    """The sign as the ways of steps know it."""
    if sign[0] == NEW_DAY:
        return NEW_DAY
    return f"{sign[0]}{'.' if sign[1] is None else '0'}"


def _amounts_behind(step, amounts):
    """The amounts that a step other than `run`, `change` and `total` can make of some amounts."""
    if isinstance(step, Times):
        return sorted(set([amount * step.factor for amount in amounts]))
    if isinstance(step, Against):
        return sorted(set([*amounts, *[-amount for amount in amounts]]))
    return amounts


class Web:
    """The web of a straight pipeline that is given rows with some amounts, or empty ones.

    A `fill up` can promise each amount that can come to it. If the pipeline has a `run`, a
    `change` or a `total`, all amounts are 0, so that they stay 0.
    """

    def __init__(self, pipeline, known, amounts):
        self._ways = [ways_of(step) for step in pipeline]
        self._known = known
        # For each step the amounts that can come to it.
        self._amounts = []
        for step in pipeline:
            self._amounts.append(amounts)
            amounts = _amounts_behind(step, amounts)
        self.first_place = tuple([_BEGIN for _ in self._ways])
        self._courses = {}

    def after(self, place, row):
        """The courses at a row, told by `=` or `+`, its mark and its amount."""
        day, mark, amount = row
        signs = ((mark, amount),) if day == "=" else ((NEW_DAY, None), (mark, amount))
        found = [((), signs)]
        for at in range(len(place)):
            found = [
                ((*before, inside), passed)
                for before, reached in found for inside, passed in self._through(at, place[at], reached)
            ]
        return found

    def ends(self, place):
        """The list of the signs that can come out behind the last row; it is empty if a promise is not kept."""
        found = [()]
        for at in range(len(place)):
            courses = [course for signs in found for course in self._through(at, place[at], signs)]
            found = []
            for inside, passed in courses:
                deeds = self._ways[at].last_deeds(inside[0])
                if deeds is not None:
                    found.extend([(*passed, *last) for _, last in self._done(at, inside, None, deeds, None)])
        return found

    def _through(self, at, inside, signs):
        """The courses of the step of an index at some signs."""
        found = [(inside, ())]
        for sign in signs:
            found = [
                (after, (*before, *passed))
                for middle, before in found for after, passed in self._at_sign(at, middle, sign)
            ]
        return found

    def _at_sign(self, at, inside, sign):
        key = (at, inside, sign)
        if key not in self._courses:
            ways = self._ways[at].ways(inside[0], _name_of(sign))
            self._courses[key] = [
                course for state, deeds in ways for course in self._done(at, inside, state, deeds, sign[1])
            ]
        return self._courses[key]

    def _done(self, at, inside, state, deeds, amount):
        """The courses of a step that does some deeds on the way to a state, one for each amount it can promise."""
        _, held, promised = inside
        choices = self._amounts[at] if ("promise",) in deeds else [promised]
        courses = [self._done_with(held, choice, state, deeds, amount) for choice in choices]
        return [course for course in courses if course is not None]

    def _done_with(self, held, promised, state, deeds, amount):
        """The course with a promised amount; None if it proves wrong."""
        passed = []
        for deed in deeds:
            if deed[0] == "break":
                passed.append((NEW_DAY, None))
            elif deed[0] == "empty":
                passed.append((self._known[deed[1]], None))
            elif deed[0] == "full":
                _, mark, by_sign, by_held, by_promised = deed
                total = _times(by_sign, amount) + _times(by_held, held) + _times(by_promised, promised)
                passed.append((self._known[mark], total))
            elif deed[0] == "hold":
                held = _times(deed[1], held) + _times(deed[2], amount)
            elif deed[0] == "redeem":
                if promised != amount:
                    return None
                promised = None
        return (state, held, promised), tuple(passed)


def _times(number, amount):
    """The amount, which may be None, times a number that is 0 then."""
    return 0 if number == 0 else number * amount
