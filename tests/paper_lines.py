"""Which lines can stand where in the text of a paper, told by patterns."""

import re
from math import gcd

INTEGER = "(?:0|-?[1-9][0-9]{0,59})"
NATURAL = "(?:0|[1-9][0-9]{0,59})"
FRAC = f"{INTEGER}(?:/[1-9][0-9]{{0,59}})?"
ROW = "(?:0|[1-9][0-9]{0,3})[a-f](?:[.]|0|-?[1-9][0-9]{0,39})"
BOOK = f"book (?:-|{ROW}(?:,{ROW})*)"
COUNT = "(?:0|[1-9][0-9]{0,17}|1000000000000000000)"


def has_pattern(line, pattern):
    return re.fullmatch(pattern, line) is not None


def is_frac(word):
    over, line, under = word.partition("/")
    return not line or (int(under) > 1 and gcd(int(over), int(under)) == 1)


def are_fracs(line, first, many=None):
    words = line.split(" ")[1:]
    return has_pattern(line, f"{first}(?: {FRAC})*") and all(is_frac(word) for word in words) and many in (None, len(words))


def is_book(line):
    if not has_pattern(line, BOOK):
        return False
    days = [int(re.match("[0-9]+", row).group()) for row in line[5:].split(",")] if line != "book -" else []
    return days == sorted(days)


def is_table(line):
    words = line.split(" ")
    return has_pattern(line, f"table {FRAC}(?: {COUNT}){{6}}") and is_frac(words[1])


def bad_line(text):
    """The first line that cannot stand there, the number of lines if one is missing, None if the text is right."""
    lines = text.split("\n")
    if lines[0] == "basis":
        return bad_basis_line(lines)
    first, later = {
        "order": (f"order(?: {NATURAL})*", f"prices(?: {INTEGER} {INTEGER})*"), "parting": (BOOK, None),
        "sources": (f"constant {INTEGER}", f"weight {NATURAL} {INTEGER}"), "mixture": (f"weights(?: {FRAC})*", None), "bar": (None, f"table {FRAC}(?: {COUNT}){{6}}"),
    }.get(lines[0], (None, None))
    if lines[0] not in ("order", "parting", "sources", "mixture", "bar"):
        return 0
    patterns = [first] if first else []
    for at, line in enumerate(lines[1:], 1):
        pattern = patterns[at - 1] if at <= len(patterns) else later
        if pattern is None or not has_pattern(line, pattern):
            return at
        if (line[:4] == "book" and not is_book(line)) or (line[:5] == "table" and not is_table(line)):
            return at
        if line[:7] == "weights" and not are_fracs(line, "weights"):
            return at
    return len(lines) if len(lines) - 1 < len(patterns) else None


def bad_basis_line(lines):
    if len(lines) == 1:
        return 1
    if not are_fracs(lines[1], "start"):
        return 1
    wanted = len(lines[1].split(" ")) - 1
    books, some, all_some = 0, 0, None
    for at, line in enumerate(lines[2:], 2):
        ended = books == 0 or (some == all_some if all_some else some in (6, 12, 18, 24, 30, 36))
        if line.split(" ")[0] == "book" and ended and books < wanted and is_book(line):
            all_some = some if books == 1 else all_some
            books, some = books + 1, 0
        elif books and some < (all_some or 36) and are_fracs(line, "shadow", wanted):
            some += 1
        else:
            return at
    ended = books == 0 or (some == all_some if all_some else some in (6, 12, 18, 24, 30, 36))
    return None if ended and books == wanted else len(lines)
