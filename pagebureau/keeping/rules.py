"""Terms and rules: how two rows are compared."""

from pagebureau.base.errors import BadTerm, BadText, TooLarge
from pagebureau.base.marks import Marks, is_marks_text

_MOST_TERMS = 6
# All terms but those on sets of marks, and what takes the place of a first word turned round.
_TERMS = (
    ("full",), ("empty",),
    ("most", "skip"), ("most", "stop"), ("least", "skip"), ("least", "stop"),
)
_TURNED = {"full": "empty", "empty": "full", "most": "least", "least": "most"}


def is_term(thing):
    """Whether the thing is a term."""
    if not isinstance(thing, tuple):
        return False
    if len(thing) == 2 and thing[0] == "in":
        return is_marks_text(thing[1])
    return thing in _TERMS


def _turned(term):
    """The term for which the other row wins."""
    if term[0] == "in":
        return ("in", (~Marks.read(term[1])).text())
    return (_TURNED[term[0]], *term[1:])


def _is_of_amounts(term):
    return term[0] in ("most", "least")


def _is_favoured(term, row):
    """Whether the row has what a term that is not of amounts asks for."""
    if term[0] == "in":
        return row[1] in term[1]
    return (row[2] is not None) == (term[0] == "full")


def _compared(term, first, second):
    """1 if the first row wins, -1 if the second does, 0 if the term does not decide."""
    if not _is_of_amounts(term):
        return int(_is_favoured(term, first)) - int(_is_favoured(term, second))
    if first[2] is None or second[2] is None:
        return 0
    more = int(first[2] > second[2]) - int(first[2] < second[2])
    return more if term[0] == "most" else -more


def _ends(term, first, second):
    """Whether comparing ends with this term, which does not decide."""
    return term[1:] == ("stop",) and (first[2] is None or second[2] is None)


def _is_told_before(terms, at):
    """Whether a term before this one tells full rows from empty ones."""
    return any([term[0] in ("full", "empty") for term in terms[:at]])


class Rule:
    """Terms that compare two rows one after another; it never changes."""

    def __init__(self, terms):
        if len(terms) > _MOST_TERMS:
            raise TooLarge(len(terms))
        for place, term in enumerate(terms):
            if not is_term(term):
                raise BadTerm(place)
        self._terms = list(terms)

    @classmethod
    def read(cls, text):
        terms = [tuple(part.split(" ")) for part in text.split(", ")] if text != "-" else []
        if len(terms) > _MOST_TERMS or not all([is_term(term) for term in terms]):
            raise BadText(0)
        return cls(terms)

    def text(self):
        return ", ".join([" ".join(term) for term in self._terms]) if self._terms else "-"

    @property
    def ranked(self):
        terms = self._terms
        places = [place for place, term in enumerate(terms) if _is_of_amounts(term)]
        return all([_is_told_before(terms, place) for place in places])

    @property
    def straight(self):
        return not any([_is_of_amounts(term) for term in self._terms])

    def __call__(self, first, second):
        for term in self._terms:
            winner = _compared(term, first, second)
            if winner != 0:
                return winner
            if _ends(term, first, second):
                return 0
        return 0

    def __iter__(self):
        return iter(self._terms)

    def __add__(self, other):
        return Rule(self._terms + other._terms)

    def __neg__(self):
        return Rule([_turned(term) for term in self._terms])

    def __eq__(self, other):
        return isinstance(other, Rule) and self._terms == other._terms
