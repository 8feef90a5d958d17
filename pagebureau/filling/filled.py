"""What becomes of each row of a book in a filling."""

from pagebureau.filling.taking import fates


def amounts_after(filling, book):
    rows = list(book)
    found = []
    for how, place, _ in fates(list(filling), rows):
        if how == "dropped":
            found.append("dropped")
        else:
            found.append(None if place is None else rows[place][2])
    return found


def trace(filling, book):
    return fates(list(filling), list(book))
