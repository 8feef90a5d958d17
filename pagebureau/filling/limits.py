"""Fill steps: how they are told and written."""

from pagebureau.base.errors import BadStep, BadText
from pagebureau.base.integers import is_plain_integer, read_integer
from pagebureau.base.marks import is_marks_text

_WAYS = ("down", "up", "near_above", "near_below")
_DROP = ("drop", None, "-")
_MOST_ROWS = 6


def _is_limit(rows):
    return rows is None or (is_plain_integer(rows) and 1 <= rows <= _MOST_ROWS)


def is_fill_step(thing):
    """Whether the thing is a fill step."""
    if not isinstance(thing, tuple) or len(thing) != 3:
        return False
    way, rows, halt = thing
    return thing == _DROP or (way in _WAYS and _is_limit(rows) and is_marks_text(halt))


def fill_step(way, *, rows=None, halt="-"):
    step = (way, rows, halt)
    if not is_fill_step(step):
        raise BadStep(0)
    return step


def _word_behind(words, name):
    """The word behind the first one that is this name, None if there is none."""
    for at, word in enumerate(words[:-1]):
        if word == name:
            return words[at + 1]
    return None


def read_fill(text):
    words = text.split(" ")
    rows, halt = _word_behind(words, "rows"), _word_behind(words, "halt")
    step = (words[0], rows and read_integer(rows, 1), halt or "-")
    # Writing the step shows whether there was anything else in the text.
    if not is_fill_step(step) or fill_text(step) != text:
        raise BadText(0)
    return step


def fill_text(step):
    way, rows, halt = step
    limit = "" if rows is None else f" rows {rows}"
    border = "" if halt == "-" else f" halt {halt}"
    return f"{way}{limit}{border}"
