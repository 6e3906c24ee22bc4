"""The refusals: what is no such thing is Wrong, what can't be is Barred."""


class LightsError(ValueError):
    """Any refusal."""


class Wrong(LightsError):
    """What is handed in is no such thing."""


class Barred(LightsError):
    """What can't be."""


class NoDay(Wrong):
    """No day, or no day that may stand there."""


class NoName(Wrong):
    """No name, or none that is known there."""


class NoStretches(Wrong):
    """No list of stretches."""


class NoKind(Wrong):
    """No table of a kind of weather."""


class NoLetters(Wrong):
    """No letters of which a kind of weather can be made."""


class NoLetter(Wrong):
    """No letter, or none that may stand there."""


class NoNumber(Wrong):
    """No whole number, or none that may stand there."""


class NoBoat(Wrong):
    """Nothing of which a boat can be made; field names what is wrong first."""

    def __init__(self, field):
        super().__init__(f"no boat by its {field}")
        self.field = field


class NoStores(Wrong):
    """No stores."""


class NoRound(Wrong):
    """Nothing of which a round can be made; field names what is wrong first."""

    def __init__(self, field):
        super().__init__(f"no round by its {field}")
        self.field = field


class NoSlot(Wrong):
    """No slot."""


class NoLight(Wrong):
    """Nothing of which a light can be made; field names what is wrong first."""

    def __init__(self, field):
        super().__init__(f"no light by its {field}")
        self.field = field


class NoService(Wrong):
    """Nothing of which a service can be made; field names what is wrong first."""

    def __init__(self, field):
        super().__init__(f"no service by its {field}")
        self.field = field


class NoStand(Wrong):
    """No stand of the service under the kind of weather."""


class NoRanks(Wrong):
    """No keepers with their ranks."""


class NoKeeper(Wrong):
    """None of the book's keepers."""


class NoPlace(Wrong):
    """No place, or none that may stand there."""


class NoNames(Wrong):
    """No list of unlike names, or not as many as are wanted."""


class NoText(Wrong):
    """No text of a book."""


class NoRow(Wrong):
    """No row that a desk can be told."""


class NoSuch(Wrong):
    """Nothing is kept by that name; word is the name."""

    def __init__(self, word):
        super().__init__(f"nothing is kept by the name {word}")
        self.word = word


class NoWeather(Barred):
    """No weather can go on so."""


class TooMany(Barred):
    """More than are told."""


class Small(Barred):
    """The boat is too small, however often it goes."""


class Early(Barred):
    """Known earlier than what was told last; latest is the day of that."""

    def __init__(self, latest):
        super().__init__(f"something was told on day {latest} already")
        self.latest = latest


class Clash(Barred):
    """Two books don't agree; clashes are where."""

    def __init__(self, clashes):
        super().__init__("the books don't agree")
        # A copy, so that nothing done later to what was handed in is seen here.
        self.clashes = list(clashes) if isinstance(clashes, list) else clashes
