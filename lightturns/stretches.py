"""Stretches of days, and the days of lists of them."""

from lightturns.errors import NoDay, NoStretches
from lightturns.wholes import is_day


class Stretch:
    """The days from a first one to a last one, or for ever where the last is None."""

    def __init__(self, first, last=None):
        if not is_day(first):
            raise NoDay("the first day of a stretch is a whole number from 0 on")
        if last is not None and not is_day(last):
            raise NoDay("the last day of a stretch is a whole number from 0 on, or None")
        if last is not None and last < first:
            raise NoDay("the last day of a stretch is no less than its first")
        self.first_day = first
        self.last_day = last

    def first(self):
        """The first day."""
        return self.first_day

    def last(self):
        """The last day, None where it goes on for ever."""
        return self.last_day

    def has(self, day):
        """Is the day one of its days?"""
        if not is_day(day):
            raise NoDay("a day is a whole number from 0 on")
        return self.first_day <= day and (self.last_day is None or day <= self.last_day)

    def __eq__(self, other):
        return isinstance(other, Stretch) and self.first_day == other.first_day and self.last_day == other.last_day

    def __repr__(self):
        if self.last_day is None:
            return f"Stretch({self.first_day})"
        return f"Stretch({self.first_day}, {self.last_day})"

    def __str__(self):
        if self.last_day is None:
            return f"{self.first_day}-"
        return f"{self.first_day}-{self.last_day}"


def days_in(some):
    """The days of a list of stretches, told in one way alone."""
    check_stretches(some)
    return merged(some)


def either_days(some, others):
    """The days that are days of either list."""
    check_stretches(some)
    check_stretches(others)
    return merged([*some, *others])


def both_days(some, others):
    """The days that are days of both lists."""
    check_stretches(some)
    check_stretches(others)
    return overlaps(merged(some), merged(others))


def only_days(some, others):
    """The days of the first list that are no days of the second."""
    check_stretches(some)
    check_stretches(others)
    return overlaps(merged(some), gaps(merged(others)))


def many_days(some):
    """How many days a list of stretches has, None where they go on for ever."""
    check_stretches(some)
    days = merged(some)
    if days and days[-1].last() is None:
        return None
    return sum([stretch.last() - stretch.first() + 1 for stretch in days])


def check_stretches(thing):
    """Refuse what is no list of stretches."""
    if not isinstance(thing, (list, tuple)):
        raise NoStretches("stretches are handed in as a list")
    if not all([isinstance(each, Stretch) for each in thing]):
        raise NoStretches("a list of stretches holds nothing else")


def merged(stretches):
    """The same days by rising stretches, with a day between each two that is none of them."""
    told = []
    for stretch in sorted(stretches, key=lambda each: each.first()):
        if told and meets(told[-1], stretch):
            told[-1] = Stretch(told[-1].first(), later_end(told[-1].last(), stretch.last()))
        else:
            told.append(Stretch(stretch.first(), stretch.last()))
    return told


def meets(stretch, later):
    """Is there no day between a stretch and one that begins no earlier?"""
    return stretch.last() is None or later.first() <= stretch.last() + 1


def overlaps(some, others):
    """The days of both, where both are as merged tells them.

    What comes of it is told so, too: two days on end that are of both lie
    within one stretch of each.
    """
    found = []
    here = there = 0
    while here < len(some) and there < len(others):
        first = max(some[here].first(), others[there].first())
        last = earlier_end(some[here].last(), others[there].last())
        if last is None or first <= last:
            found.append(Stretch(first, last))
        ends_here = some[here].last() == last
        ends_there = others[there].last() == last
        if ends_here:
            here += 1
        if ends_there:
            there += 1
    return found


def gaps(stretches):
    """The days from 0 on that none has, of stretches as merged tells them."""
    found = []
    start = 0
    for stretch in stretches:
        if start < stretch.first():
            found.append(Stretch(start, stretch.first() - 1))
        if stretch.last() is None:
            return found
        start = stretch.last() + 1
    found.append(Stretch(start))
    return found


def earlier_end(one, other):
    """The earlier of two last days, where None is for ever."""
    if one is None:
        return other
    if other is None:
        return one
    return min(one, other)


def later_end(one, other):
    """The later of two last days, where None is for ever."""
    if one is None or other is None:
        return None
    return max(one, other)
