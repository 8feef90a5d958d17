"""Integers, their decimal digits, and lists that number things."""

# Python itself writes and reads integers of only so many digits; chunks of this
# length are far below that.
_CHUNK = 10 ** 60


def is_plain_integer(thing):
    """Whether the thing is an integer; True and False are none."""
    return isinstance(thing, int) and not isinstance(thing, bool)


def is_digits(text):
    """Whether the text consists of one or more of the digits from 0 to 9."""
    return text.isascii() and text.isdigit()


def written(number):
    """The decimal digits of an integer, however long, with `-` before them below 0."""
    sign = "-" if number < 0 else ""
    rest = abs(number)
    digits = ""
    while rest >= _CHUNK:
        rest, low = divmod(rest, _CHUNK)
        digits = f"{low:060d}{digits}"
    return f"{sign}{rest}{digits}"


def read_integer(text, most):
    """The integer with this text and at most so many digits, None if there is none."""
    digits = text[1:] if text.startswith("-") else text
    if not is_digits(digits) or len(digits) > most:
        return None
    number = int(text)
    return number if written(number) == text else None


def misplaced(numbers, count):
    """The first index at which a list is not one of all numbers below a count, each once.

    It is the length of the list if nothing in it is wrong but numbers are missing, and
    None if the list is one.
    """
    seen = set()
    for at, number in enumerate(numbers):
        if not is_plain_integer(number) or not 0 <= number < count or number in seen:
            return at
        seen.add(number)
    return len(numbers) if len(seen) < count else None
