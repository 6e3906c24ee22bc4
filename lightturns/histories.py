"""What was told of days, and what of it holds, as known on a day."""


class History:
    """What was told of one keeper's moves, or of one light's landings: of which day, on which known day."""

    def __init__(self):
        self.by_day = {}

    def note(self, known, day, worth):
        """Hold what is told of a day on a known one, in place of what was told of it on that one."""
        told = self.by_day.setdefault(day, {})
        told[known] = worth

    def all_told(self):
        """All that was told, as tuples (known day, day, worth)."""
        return [(known, day, worth) for day, told in self.by_day.items() for known, worth in told.items()]

    def told_last(self, day, known):
        """What was told last of a day on known days up to that one, on all where it's None; None where nothing was."""
        told = self.by_day.get(day, {})
        counting = [each for each in told if known is None or each <= known]
        return told[max(counting)] if counting else None

    def holding(self, known):
        """What holds, as known, as tuples (day, worth), by rising days; a day of which None holds is left out."""
        rows = [(day, self.told_last(day, known)) for day in sorted(self.by_day)]
        return [(day, worth) for day, worth in rows if worth is not None]
