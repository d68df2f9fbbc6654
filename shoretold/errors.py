"""All refusals: one class for each, straight under ShoreError."""


class ShoreError(ValueError):
    """Any refusal."""


class BadName(ShoreError):
    """A name that is not 1 to 8 small letters."""


class BadShore(ShoreError):
    """A row in which some name does not stand just twice."""


class Full(ShoreError):
    """More of a kind than an island holds."""


class NoDitch(ShoreError):
    """A name that is no ditch of the row."""


class NoPlace(ShoreError):
    """A gap, or a number of ends, that the row does not have."""


class NoPlot(ShoreError):
    """A tuple of texts that tells no plot of the row."""


class NoCrossing(ShoreError):
    """Two ditches that do not cross."""


class NoWalk(ShoreError):
    """A number that no shortest walk has, or a walk that is no shortest one."""


class BadGround(ShoreError):
    """A list of banks that tells no ground."""


class NoBody(ShoreError):
    """An empty list where one at least is needed."""


class Taken(ShoreError):
    """A name that another one of the kind bears."""


class BadBank(ShoreError):
    """A bank that is neither home nor off."""


class NoWalker(ShoreError):
    """A name that is no walker's."""


class Tired(ShoreError):
    """A way that has, or would have, too many steps."""


class Bidden(ShoreError):
    """A walker that a moot bids."""


class NoGround(ShoreError):
    """A name that is no ground's."""


class NoMoot(ShoreError):
    """A name that is no moot's."""


class NothingLeft(ShoreError):
    """No deed to take back or to do again."""


class BadText(ShoreError):
    """A text that is not an island's deeds as they are written."""


class BadNumber(ShoreError):
    """A number that no letter has."""


class Clash(ShoreError):
    """A letter whose number came with another line."""


class Barred(ShoreError):
    """Three ditches of which each two would cross: `three` is the first such triple."""

    def __init__(self, three):
        self.three = three


class NotBeside(ShoreError):
    """A step over a ditch that the plot does not lie beside: `at` is the step's number."""

    def __init__(self, at):
        self.at = at
