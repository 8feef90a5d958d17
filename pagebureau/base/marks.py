"""Sets of marks."""

from pagebureau.base.errors import BadMarks, BadText, NoMark


def is_mark(thing):
    """Whether the thing is one of the marks."""
    return isinstance(thing, str) and len(thing) == 1 and thing in Marks.ALL


def check_mark(thing):
    """Raises NoMark for anything that is not one of the marks."""
    if not is_mark(thing):
        raise NoMark(thing)


def is_marks_text(thing):
    """Whether the thing is the text of a set of marks."""
    if not isinstance(thing, str) or thing == "":
        return False
    return thing == "-" or thing == "".join([mark for mark in Marks.ALL if mark in thing])


class Marks:
    """A set of marks, which never changes."""

    ALL = "abcdef"

    def __init__(self, letters=""):
        if not all([is_mark(letter) for letter in letters]):
            raise BadMarks(letters)
        self.letters = "".join([mark for mark in Marks.ALL if mark in letters])

    @classmethod
    def read(cls, text):
        if not is_marks_text(text):
            raise BadText(0)
        return cls("" if text == "-" else text)

    def text(self):
        return self.letters if self.letters else "-"

    def __len__(self):
        return len(self.letters)

    def __iter__(self):
        return iter(self.letters)

    def __bool__(self):
        return bool(self.letters)

    def __contains__(self, x):
        return is_mark(x) and x in self.letters

    def __and__(self, other):
        return Marks("".join([mark for mark in self.letters if mark in other.letters]))

    def __or__(self, other):
        return Marks(self.letters + other.letters)

    def __sub__(self, other):
        return Marks("".join([mark for mark in self.letters if mark not in other.letters]))

    def __xor__(self, other):
        return (self - other) | (other - self)

    def __invert__(self):
        return Marks(Marks.ALL) - self

    def __le__(self, other):
        if not isinstance(other, Marks):
            return NotImplemented
        return all([mark in other.letters for mark in self.letters])

    def __eq__(self, other):
        return isinstance(other, Marks) and self.letters == other.letters
