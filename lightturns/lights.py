"""Lights, and the service that a boat does them."""

from lightturns.errors import NoLight, NoService
from lightturns.letters import are_unlike_letters
from lightturns.names import is_name
from lightturns.wholes import is_within

MOST_CREW = 9
MOST_STOCK = 30
MOST_LIGHTS = 3
MOST_SEATS = 9


class Light:
    """A light: its crew, the well ones it needs, its stock, and letters of days for it."""

    def __init__(self, name, crew, need, stock, lands="", sicks=""):
        if not is_name(name):
            raise NoLight("name")
        if not is_within(crew, 1, MOST_CREW):
            raise NoLight("crew")
        if not is_within(need, 0, crew):
            raise NoLight("need")
        if not is_within(stock, 1, MOST_STOCK):
            raise NoLight("stock")
        if not are_unlike_letters(lands):
            raise NoLight("lands")
        if not are_unlike_letters(sicks):
            raise NoLight("sicks")
        self.its_name = name
        self.its_crew = crew
        self.its_need = need
        self.its_stock = stock
        self.its_lands = lands
        self.its_sicks = sicks

    def name(self):
        """What it's called."""
        return self.its_name

    def crew(self):
        """How many keepers are there when all are well."""
        return self.its_crew

    def need(self):
        """How many well ones must always be there."""
        return self.its_need

    def stock(self):
        """For how many days stores last when they have been landed."""
        return self.its_stock

    def lands(self):
        """The letters of days on which the boat can land."""
        return self.its_lands

    def sicks(self):
        """The letters of days on which a keeper falls sick."""
        return self.its_sicks

    def __eq__(self, other):
        if not isinstance(other, Light):
            return False
        return light_parts(self) == light_parts(other)


class Service:
    """One to three lights, and the seats of the boat that goes to them in turn."""

    def __init__(self, lights, seats):
        if not are_lights(lights):
            raise NoService("lights")
        if not is_within(seats, 0, MOST_SEATS):
            raise NoService("seats")
        self.all_lights = list(lights)
        self.boat_seats = seats

    def lights(self):
        """The lights, in their order."""
        return list(self.all_lights)

    def seats(self):
        """How many seats the boat has."""
        return self.boat_seats


def light_parts(light):
    """The six of which a light is made."""
    return (light.name(), light.crew(), light.need(), light.stock(), light.lands(), light.sicks())


def are_lights(thing):
    """Is it a list of one to three lights with unlike names?"""
    if not isinstance(thing, (list, tuple)) or not 1 <= len(thing) <= MOST_LIGHTS:
        return False
    if not all([isinstance(light, Light) for light in thing]):
        return False
    return len({light.name() for light in thing}) == len(thing)
