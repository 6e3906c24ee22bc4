"""Two kinds of weather beside one another, by pairs of their rows."""

from lightturns.errors import NoWeather, TooMany
from lightturns.kinds import Kind
from lightturns.tables import first_beyond
from lightturns.walks import Walk

FIRST_PAIR = (0, 0)
MOST_MADE = 400


def beyond(kind, other):
    """The first weather of a kind that is not of another one, or None."""
    return first_beyond(kind.rows, other.rows)


def both_kinds(kind, other):
    """The kind of the weathers that are of both and can go on so."""
    lasting = pairs_going_on(kind.rows, other.rows)
    if FIRST_PAIR not in lasting:
        raise NoWeather("whatever is of both kinds comes to an end")
    return made_kind(lambda pair: kept(both_leads(kind.rows, other.rows, pair), lasting))


def either_kind(kind, other):
    """The kind of the weathers of the one and of those of the other."""
    return made_kind(lambda pair: either_leads(kind.rows, other.rows, pair))


def made_kind(leads_of):
    """The kind with a row for each pair come to, where leads_of tells a pair's letters and to which pairs they lead."""
    walk = Walk(FIRST_PAIR)
    table = []
    while len(table) < len(walk.places):
        at = len(table)
        leads = leads_of(walk.places[at])
        row = {}
        for letter, pair in leads.items():
            row[letter] = walk.meet(pair, at, letter)
        if len(walk.places) > MOST_MADE:
            raise TooMany("the kind would have more than 400 rows")
        table.append(row)
    return Kind(table)


def both_leads(rows, others, pair):
    """The letters of both rows of a pair, rising, and the pairs to which they lead."""
    row = rows[pair[0]]
    other = others[pair[1]]
    return {letter: (row[letter], other[letter]) for letter in row if letter in other}


def either_leads(rows, others, pair):
    """The letters of either row of a pair, rising, and the pairs to which they lead."""
    row = row_of(rows, pair[0])
    other = row_of(others, pair[1])
    return {letter: (row.get(letter), other.get(letter)) for letter in sorted({**row, **other})}


def row_of(rows, number):
    """The row of that number; None stands for one that no letter leads on from."""
    return {} if number is None else rows[number]


def kept(leads, lasting):
    """What leads to pairs that go on."""
    return {letter: pair for letter, pair in leads.items() if pair in lasting}


def pairs_going_on(rows, others):
    """The pairs that go on, of all that are come to by letters of both, as keys of a dict."""
    walk = Walk(FIRST_PAIR)
    sources = [[]]
    ways_on = []
    while len(ways_on) < len(walk.places):
        at = len(ways_on)
        leads = both_leads(rows, others, walk.places[at])
        ways_on.append(len(leads))
        for letter, pair in leads.items():
            number = walk.meet(pair, at, letter)
            if number == len(sources):
                sources.append([])
            sources[number].append(at)
    take_out_ends(sources, ways_on)
    return {walk.places[at]: True for at, many in enumerate(ways_on) if many > 0}


def take_out_ends(sources, ways_on):
    """Count the ways on down till each that is left leads to one that has a way on, too.

    What is left then goes on for ever, for each step finds a way on again;
    what is taken out comes to an end by as many steps as it took at the most.
    """
    ends = [at for at, many in enumerate(ways_on) if many == 0]
    while ends:
        end = ends.pop()
        for source in sources[end]:
            ways_on[source] -= 1
            if ways_on[source] == 0:
                ends.append(source)
