"""Tallies: what must be known of the rows that come out so that the figure can go on.

It is whether the day is counted already for "days", the last amount for "last", and None for
other words. A figure is the sum of what each row adds to it.
"""

from pagebureau.base.rows import worth
from pagebureau.judge.ways import NEW_DAY


def first_tally(word):
    if word == "last":
        return 0
    return False if word == "days" else None


def tallied(report, tally, signs):
    """The tally behind some signs of the web, and what they add to the figure."""
    total = 0
    for mark, amount in signs:
        if mark == NEW_DAY:
            tally = False if report.word == "days" else tally
        elif mark in report.marks:
            total = total + _added(report.word, tally, amount)
            tally = _tally_behind(report.word, tally, amount)
    return tally, total


def _added(word, tally, amount):
    """What a row of the marks adds to a figure."""
    if word == "count":
        return 1
    if word == "days":
        return int(not tally)
    if word == "full":
        return int(amount is not None)
    if word == "sum" or amount is None:
        return worth(amount)
    return amount - tally


def _tally_behind(word, tally, amount):
    if word == "days":
        return True
    return amount if word == "last" and amount is not None else tally
