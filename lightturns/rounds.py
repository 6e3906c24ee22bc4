"""Rounds of turns that go on for ever."""

from lightturns.errors import NoNumber, NoRound, NoSlot, TooMany
from lightturns.wholes import is_from, is_whole, is_within, parts_for

MOST_KEEPERS = 40


class Round:
    """Keepers, each on for so many slots, then off for so many, from a begin of their own."""

    def __init__(self, on, off, begins):
        check_turns(on, off)
        if not are_begins(begins, on + off):
            raise NoRound("begins")
        self.slots_on = on
        self.slots_off = off
        self.first_slots = list(begins)

    def on(self):
        """For how many slots each is on."""
        return self.slots_on

    def off(self):
        """For how many slots each is off."""
        return self.slots_off

    def begins(self):
        """The begin of each keeper, in their order."""
        return list(self.first_slots)

    def on_in(self, slot):
        """The numbers of the keepers that are on in a slot, rising."""
        if not is_from(slot, 0):
            raise NoSlot("a slot is a whole number from 0 on")
        whole = self.slots_on + self.slots_off
        return [keeper for keeper, begin in enumerate(self.first_slots) if (slot - begin) % whole < self.slots_on]

    def least(self):
        """How few are on at the fewest, and the first slot of so few.

        From one slot to the next there are fewer only where one goes off; so
        the first slot of the fewest is slot 0 or one in which one went off.
        """
        whole = self.slots_on + self.slots_off
        slots = [0] + [(begin + self.slots_on) % whole for begin in self.first_slots]
        return min([(len(self.on_in(slot)), slot) for slot in slots])

    def moved(self, by):
        """The round with each begin so much later, round and round."""
        if not is_whole(by):
            raise NoNumber("a round is moved by a whole number")
        whole = self.slots_on + self.slots_off
        return Round(self.slots_on, self.slots_off, [(begin + by) % whole for begin in self.first_slots])

    def __eq__(self, other):
        if not isinstance(other, Round):
            return False
        if self.slots_on != other.slots_on or self.slots_off != other.slots_off:
            return False
        return sorted(self.first_slots) == sorted(other.first_slots)

    def __len__(self):
        return len(self.first_slots)

    def __repr__(self):
        return f"Round({self.slots_on}, {self.slots_off}, {self.first_slots})"


def even_round(on, off, many):
    """A round of so many keepers of which the least is as many as any such round's can be.

    The begins are spread as evenly as whole slots let; so any slots on end
    hold their share of them, without the rest, at the least.
    """
    check_turns(on, off)
    if not is_within(many, 0, MOST_KEEPERS):
        raise NoNumber("keepers are counted by a whole number from 0 to 40")
    return Round(on, off, [keeper * (on + off) // many for keeper in range(many)])


def keeping(many, on, off):
    """How few keepers so many always on want, and a round of these in which they are."""
    check_turns(on, off)
    if not is_from(many, 0):
        raise NoNumber("those always on are counted by a whole number from 0 on")
    keepers = parts_for(many * (on + off), on)
    if keepers > MOST_KEEPERS:
        raise TooMany("more than forty keepers are wanted")
    return (keepers, even_round(on, off, keepers))


def check_turns(on, off):
    """Refuse what each can't be on or off for."""
    if not is_from(on, 1):
        raise NoRound("on")
    if not is_from(off, 0):
        raise NoRound("off")


def are_begins(thing, whole):
    """Is it a list of at most forty begins, each less than the whole?"""
    if not isinstance(thing, (list, tuple)) or len(thing) > MOST_KEEPERS:
        return False
    return all([is_within(begin, 0, whole - 1) for begin in thing])
