"""Kinds of weather."""

from lightturns.errors import NoKind
from lightturns.tables import alike, is_table, rising


class Kind:
    """All weathers that a table leads through, letter by letter, from its row 0 on."""

    def __init__(self, table):
        if not is_table(table):
            raise NoKind("a kind is made of a list of rows, dicts from letters to numbers of rows")
        self.rows = rising(table)

    def table(self):
        """A table of the kind, the asker's own."""
        return [dict(row) for row in self.rows]

    def after(self, weather):
        """The number of the row after a weather, None of what is no weather of the kind."""
        if not isinstance(weather, str):
            return None
        number = 0
        for letter in weather:
            row = self.rows[number]
            if letter not in row:
                return None
            number = row[letter]
        return number

    def __eq__(self, other):
        return isinstance(other, Kind) and alike(self.rows, other.rows)

    def __len__(self):
        return len(self.rows)
