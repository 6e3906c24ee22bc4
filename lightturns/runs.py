"""Runs of days on which one and the same is so."""

from lightturns.stretches import Stretch


def runs_of(start, changes):
    """What is so from day 0 on, as tuples (what, stretch) in order, the last stretch for ever.

    Start is so until the first of the changes, tuples (day, what) of rising
    days. No two that follow one another tell the same.
    """
    begins = [(0, start)]
    for day, what in changes:
        if day == 0:
            begins = [(0, what)]
        elif what != begins[-1][1]:
            begins.append((day, what))
    lasts = [day - 1 for day, what in begins[1:]] + [None]
    return [(what, Stretch(day, last)) for (day, what), last in zip(begins, lasts)]
