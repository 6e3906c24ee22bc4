"""Searches that come to each place once, by its first weather."""


class Walk:
    """Places in the order in which they are met, and how each was first come to.

    Where the places are looked at in this order, and the letters of each one
    in theirs, they are met in the order of their first weathers: those of the
    fewest days first, of as many those that are first as texts.
    """

    def __init__(self, start):
        self.places = [start]
        self.numbers = {start: 0}
        self.ways = [None]

    def meet(self, place, origin, letter):
        """The number of a place that a letter leads to from the place of the number origin."""
        if place not in self.numbers:
            self.numbers[place] = len(self.places)
            self.places.append(place)
            self.ways.append((origin, letter))
        return self.numbers[place]

    def weather_to(self, number):
        """The first weather that comes to the place of that number."""
        letters = []
        while number > 0:
            number, letter = self.ways[number]
            letters.append(letter)
        return "".join(reversed(letters))
