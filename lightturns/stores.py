"""Stores at lights: who eats of them, what is left, and how long they last."""

from lightturns.boats import fewest
from lightturns.checks import check_days, check_known, check_light, check_number
from lightturns.runs import runs_of
from lightturns.stretches import Stretch, earlier_end
from lightturns.turns import came, turns, went


def heads(book, light, known=None):
    """How many keepers are at a light, as known, as tuples (many, stretch), from day 0 on."""
    check_light(light)
    check_known(known)
    steps = {}
    for keeper in book.ranks():
        for place, stretch in turns(book, keeper, known):
            if place == light:
                put_steps(steps, stretch)
    many = 0
    changes = []
    for day in sorted(steps):
        many += steps[day]
        changes.append((day, many))
    return runs_of(0, changes)


def put_steps(steps, stretch):
    """Put to the steps, from days to by how much heads change, that there's one more on the days of a stretch."""
    steps[stretch.first()] = steps.get(stretch.first(), 0) + 1
    if stretch.last() is not None:
        behind = stretch.last() + 1
        steps[behind] = steps.get(behind, 0) - 1


def left_over(book, light, ration, day, known=None):
    """What is left at a light at a day's end, as known; it may be below 0."""
    check_light(light)
    check_number(ration, 1)
    check_days(day, known)
    now = [supply for supply in supplies(book, light, ration, known) if supply[0].has(day)]
    return left_on(now[0], day)


def unfed(book, light, ration, known=None):
    """The first day at whose end what is left is below 0, and by how much, as a tuple; None where there is none."""
    check_light(light)
    check_number(ration, 1)
    check_known(known)
    for stretch, stock, eaten in supplies(book, light, ration, known):
        # The stock isn't below 0 here: else an earlier day would have been told.
        if eaten > 0:
            day = stretch.first() + stock // eaten
            if stretch.has(day):
                return (day, -left_on((stretch, stock, eaten), day))
    return None


def weight_wanted(book, light, ration, till, known=None):
    """The least weight with which, landed beside on day 0, stores last till a day, and the first day with nothing left.

    Within a supply what is left falls from day to day or stays; so it's
    least, for the first time, at the end of the last day of one that falls.
    """
    check_light(light)
    check_number(ration, 1)
    check_days(till, known)
    least = 0
    least_day = None
    for supply in supplies(book, light, ration, known):
        if supply[0].first() <= till:
            day = earlier_end(supply[0].last(), till)
            if left_on(supply, day) < least:
                least = left_on(supply, day)
                least_day = day
    return (-least, least_day)


def landing(book, boat, light, day, known=None):
    """Men who came to a light on a day, the weight landed, men who went, and the boat's fewest goings for these."""
    check_light(light)
    check_days(day, known)
    out = len(came(book, light, day, known))
    weight = book.landed(light, day, known)
    back = len(went(book, light, day, known))
    return (out, weight, back, fewest(boat, out, back, {"stores": weight} if weight > 0 else {}))


def supplies(book, light, ration, known):
    """Tuples (stretch, stock, eaten), in order, from day 0 on, the last stretch for ever.

    Each day of the stretch so much is eaten, and on none but the first stores
    are landed; the stock is what is there that day, before anything is eaten.
    """
    landed = dict(book.landings_known(light, known))
    told = []
    left = 0
    for many, stretch in heads(book, light, known):
        for part in cut_at(stretch, list(landed)):
            supply = (part, left + landed.get(part.first(), 0), many * ration)
            told.append(supply)
            if part.last() is not None:
                left = left_on(supply, part.last())
    return told


def cut_at(stretch, days):
    """A stretch in parts, of which each but the first begins on one of these rising days."""
    firsts = [stretch.first()] + [day for day in days if stretch.has(day) and day > stretch.first()]
    lasts = [day - 1 for day in firsts[1:]] + [stretch.last()]
    return [Stretch(first, last) for first, last in zip(firsts, lasts)]


def left_on(supply, day):
    """What is left at the end of a day of a supply."""
    stretch, stock, eaten = supply
    return stock - eaten * (day - stretch.first() + 1)
