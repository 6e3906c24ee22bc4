"""Tables of kinds of weather for the tests, and the plain words of [8] and [9]."""


def circle(many, letters="a"):
    """So many rows, each letter leading from each to the one behind it, round and round."""
    return [dict.fromkeys(letters, (number + 1) % many) for number in range(many)]


def path(weather):
    """The rows of a weather, letter by letter, then of its last letter for ever."""
    last = len(weather)
    return [{letter: at + 1} for at, letter in enumerate(weather)] + [{weather[-1]: last}]


def some_table(dice, many, letters):
    """A table of so many rows, thrown with dice, without a row that has no letter."""
    table = []
    for number in range(many):
        picked = [letter for letter in letters if dice.randrange(3) > 0] or [dice.choice(letters)]
        dice.shuffle(picked)
        table.append({letter: dice.randrange(many) for letter in picked})
    return table


def weathers(table, most):
    """All weathers of a table of up to so many days, the first ones first, with the rows after them."""
    told = {"": 0}
    last = [""]
    for day in range(most):
        last = [weather + letter for weather in last for letter in sorted(table[told[weather]])]
        for weather in last:
            told[weather] = table[told[weather[:-1]]][weather[-1]]
    return told
