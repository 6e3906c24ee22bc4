"""Whether lights can ever be short of keepers or stores, whatever weather of a kind comes."""

from lightturns.errors import NoLetter, NoName, NoStand, TooMany
from lightturns.letters import is_letter
from lightturns.lights import MOST_SEATS, MOST_STOCK, Light, Service
from lightturns.names import is_name
from lightturns.walks import Walk
from lightturns.wholes import is_within

MOST_STANDS = 2000


def first_stand(service):
    """How all is on the first morning."""
    stand = [0, 0]
    for light in service.lights():
        stand += [light.crew(), 0]
    return tuple(stand)


def next_stand(service, kind, stand, letter):
    """The next morning's stand behind a day of a letter, and (name, word) where the day is short, else None."""
    if not is_stand(service, kind, stand):
        raise NoStand("no stand of the service under the kind")
    if not is_letter(letter) or letter not in kind.rows[stand[0]]:
        raise NoLetter("the row of the stand hasn't that letter")
    return day_from(service, kind, stand, letter)


def safe(service, kind):
    """("safe", all stands come to), or ("short", weather, name, word) of the first weather that ends on a short day."""
    walk = Walk(first_stand(service))
    first_short = None
    at = 0
    while at < len(walk.places):
        here = walk.places[at]
        for letter in kind.rows[here[0]]:
            stand, told = day_from(service, kind, here, letter)
            if told is None:
                walk.meet(stand, at, letter)
            elif first_short is None:
                first_short = ("short", walk.weather_to(at) + letter, *told)
        if len(walk.places) > MOST_STANDS:
            raise TooMany("more than 2,000 stands are come to")
        at += 1
    return ("safe", sorted(walk.places)) if first_short is None else first_short


def shows_safe(service, kind, thing):
    """Is it a list of stands that shows the service to be safe under the kind?"""
    if not isinstance(thing, (list, tuple)):
        return False
    if not all([is_stand(service, kind, stand) for stand in thing]):
        return False
    listed = {stand: True for stand in thing}
    if first_stand(service) not in listed:
        return False
    return all([stays_among(service, kind, stand, listed) for stand in listed])


def stays_among(service, kind, stand, listed):
    """Is no day from the stand short, and each next morning's stand listed?"""
    for letter in kind.rows[stand[0]]:
        after, told = day_from(service, kind, stand, letter)
        if told is not None or after not in listed:
            return False
    return True


def least_stock(service, kind, name):
    """The least stock of the light of that name with which the service is safe, or None."""
    if not is_name(name) or name not in [light.name() for light in service.lights()]:
        raise NoName("no light of the service is called so")
    for stock in range(1, MOST_STOCK + 1):
        lights = [stocked(light, stock) if light.name() == name else light for light in service.lights()]
        if is_safe(Service(lights, service.seats()), kind):
            return stock
    return None


def fewest_seats(service, kind):
    """The fewest seats of the boat with which the service is safe, or None."""
    for seats in range(MOST_SEATS + 1):
        if is_safe(Service(service.lights(), seats), kind):
            return seats
    return None


def stocked(light, stock):
    """The light, but with that stock."""
    return Light(light.name(), light.crew(), light.need(), stock, light.lands(), light.sicks())


def is_safe(service, kind):
    """Is no day short, whatever weather of the kind comes?"""
    return safe(service, kind)[0] == "safe"


def is_stand(service, kind, thing):
    """Is it a stand of the service under the kind?"""
    most = [len(kind) - 1, len(service.lights()) - 1]
    for light in service.lights():
        most += [light.crew(), light.stock()]
    if not isinstance(thing, tuple) or len(thing) != len(most):
        return False
    return all([is_within(number, 0, high) for number, high in zip(thing, most)])


def day_from(service, kind, stand, letter):
    """What next_stand tells, of a stand and a letter of its row."""
    lights = service.lights()
    well = [left_well(light, stand[2 + 2 * at], letter) for at, light in enumerate(lights)]
    days = [stand[3 + 2 * at] for at in range(len(lights))]
    told = short_at(lights, well, days)
    later = [min(days[at] + 1, light.stock()) for at, light in enumerate(lights)]
    goes_to = stand[1]
    if letter in lights[goes_to].lands():
        well[goes_to] = min(lights[goes_to].crew(), well[goes_to] + service.seats())
        later[goes_to] = 0
        goes_to = (goes_to + 1) % len(lights)
    after = [kind.rows[stand[0]][letter], goes_to]
    for at in range(len(lights)):
        after += [well[at], later[at]]
    return (tuple(after), told)


def left_well(light, well, letter):
    """How many are well at a light on a day of the letter, of those well that morning."""
    return max(0, well - 1) if letter in light.sicks() else well


def short_at(lights, well, days):
    """(name, word) of the first light that is short, None where none is."""
    for at, light in enumerate(lights):
        if well[at] < light.need():
            return (light.name(), "keepers")
        if days[at] == light.stock():
            return (light.name(), "stores")
    return None
