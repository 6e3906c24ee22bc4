"""A boat's goings: men out and back, and stores out."""

from lightturns.errors import NoBoat, NoNumber, NoStores, Small, TooMany
from lightturns.names import is_name
from lightturns.wholes import is_from, parts_for

MOST_THINGS = 8
MOST_LOADS = 300


class Boat:
    """Seats, a weight that it carries, and the weight that it reckons for each man."""

    def __init__(self, seats, carries, man):
        if not is_from(seats, 1):
            raise NoBoat("seats")
        if not is_from(carries, 1):
            raise NoBoat("carries")
        if not is_from(man, 1):
            raise NoBoat("man")
        self.many_seats = seats
        self.most_weight = carries
        self.man_weight = man

    def seats(self):
        """How many seats it has."""
        return self.many_seats

    def carries(self):
        """The weight that it carries."""
        return self.most_weight

    def man(self):
        """The weight that it reckons for each man."""
        return self.man_weight


def barred(boat, goings, out, back=0, stores=None):
    """What bars so many goings, as a tuple (word, wanted, can), or None where they do."""
    if not is_from(goings, 0):
        raise NoNumber("goings are counted by a whole number from 0 on")
    check_wanted(out, back, stores)
    men = goings * room_of(boat)
    if out > men:
        return ("out", out, men)
    if back > men:
        return ("back", back, men)
    weight = weight_out(boat, out, stores)
    if weight > goings * boat.carries():
        return ("weight", weight, goings * boat.carries())
    return None


def fewest(boat, out, back=0, stores=None):
    """How many goings do, where none fewer do."""
    check_wanted(out, back, stores)
    for_weight = parts_for(weight_out(boat, out, stores), boat.carries())
    if out == 0 and back == 0:
        return for_weight
    room = room_of(boat)
    if room == 0:
        raise Small("the boat doesn't carry a man")
    return max(parts_for(max(out, back), room), for_weight)


def loads(boat, out, back=0, stores=None):
    """The fewest goings, as a list of tuples (men out, men back, stores).

    Each going takes as many men as there's room for, then stores as they
    come; so weight is left free in a going only where nothing is left to go.
    """
    many = fewest(boat, out, back, stores)
    if many > MOST_LOADS:
        raise TooMany("the fewest goings are more than 300")
    room = room_of(boat)
    rest = {} if stores is None else dict(stores)
    told = []
    for number in range(many):
        men_out = max(0, min(room, out - number * room))
        men_back = max(0, min(room, back - number * room))
        told.append((men_out, men_back, taken(rest, boat.carries() - men_out * boat.man())))
    return told


def taken(rest, weight):
    """Take stores up to that weight out of the rest; told are those taken."""
    part = {}
    for name in list(rest):
        some = min(rest[name], weight)
        if some > 0:
            part[name] = some
            rest[name] -= some
            weight -= some
    return part


def room_of(boat):
    """How many men the boat takes at once."""
    return min(boat.seats(), boat.carries() // boat.man())


def weight_out(boat, out, stores):
    """The weight of men out and stores together."""
    return out * boat.man() + (0 if stores is None else sum(stores.values()))


def check_wanted(out, back, stores):
    """Refuse men and stores that are none."""
    if not is_from(out, 0) or not is_from(back, 0):
        raise NoNumber("men are counted by a whole number from 0 on")
    if stores is not None and not are_stores(stores):
        raise NoStores("stores are a dict of at most eight things from names to weights")


def are_stores(thing):
    """Is it a dict of none to eight things, from names to weights?"""
    if not isinstance(thing, dict) or len(thing) > MOST_THINGS:
        return False
    return all([is_name(name) and is_from(weight, 1) for name, weight in thing.items()])
