"""The errors of the package: each one derives directly from DoorError."""


class DoorError(ValueError):
    """Any error that the package names."""


class BadWeb(DoorError):
    """Cups and dealers make no web: which part is wrong, and where."""

    def __init__(self, part, at):
        DoorError.__init__(self, "cups and dealers make no web")
        self.part = part
        self.at = at


class NoStep(DoorError):
    """This is no step."""

    def __init__(self):
        DoorError.__init__(self, "this is no step")


class NoDoor(DoorError):
    """This is no door to a house or cup of the web."""

    def __init__(self):
        DoorError.__init__(self, "this is no door to a house or cup of the web")


class NoHouse(DoorError):
    """This is no house of the web."""

    def __init__(self):
        DoorError.__init__(self, "this is no house of the web")


class NoDoors(DoorError):
    """These are no doors of which such a dealer can be made."""

    def __init__(self):
        DoorError.__init__(self, "these are no doors of which such a dealer can be made")


class NoNumber(DoorError):
    """This is no number that can stand here."""

    def __init__(self):
        DoorError.__init__(self, "this is no number that can stand here")


class NoLoad(DoorError):
    """This is no load of the web."""

    def __init__(self):
        DoorError.__init__(self, "this is no load of the web")


class NoMoves(DoorError):
    """These are no moves of the web, or they cannot be done."""

    def __init__(self):
        DoorError.__init__(self, "these are no moves of the web, or they cannot be done")


class TooMany(DoorError):
    """There are more than the most that are told."""

    def __init__(self, most):
        DoorError.__init__(self, "there are more than the most that are told")
        self.most = most


class NoPrices(DoorError):
    """These are no prices of steps of the web."""

    def __init__(self):
        DoorError.__init__(self, "these are no prices of steps of the web")


class NoGap(DoorError):
    """This is no gap."""

    def __init__(self):
        DoorError.__init__(self, "this is no gap")


class NoTable(DoorError):
    """There is no table for these prices."""

    def __init__(self):
        DoorError.__init__(self, "there is no table for these prices")


class NoEnds(DoorError):
    """These are no standings, one for each house."""

    def __init__(self):
        DoorError.__init__(self, "these are no standings, one for each house")


class NoCup(DoorError):
    """This is no cup of the web."""

    def __init__(self):
        DoorError.__init__(self, "this is no cup of the web")


class NoForest(DoorError):
    """This is no forest of the web."""

    def __init__(self):
        DoorError.__init__(self, "this is no forest of the web")


class NoWeights(DoorError):
    """These are no weights of steps of the web."""

    def __init__(self):
        DoorError.__init__(self, "these are no weights of steps of the web")


class NoNest(DoorError):
    """This is no nest of the web."""

    def __init__(self):
        DoorError.__init__(self, "this is no nest of the web")


class NotFixed(DoorError):
    """The web leaves choices."""

    def __init__(self):
        DoorError.__init__(self, "the web leaves choices")


class NoCounts(DoorError):
    """These are no counts of steps of the web."""

    def __init__(self):
        DoorError.__init__(self, "these are no counts of steps of the web")


class NoDiaries(DoorError):
    """These are no diaries that can be walked."""

    def __init__(self):
        DoorError.__init__(self, "these are no diaries that can be walked")


class NoOrder(DoorError):
    """This is no order of the houses."""

    def __init__(self):
        DoorError.__init__(self, "this is no order of the houses")


class NoNumbers(DoorError):
    """These are no numbers of steps for all standings."""

    def __init__(self):
        DoorError.__init__(self, "these are no numbers of steps for all standings")


class NoGrain(DoorError):
    """No grain waits in the house."""

    def __init__(self):
        DoorError.__init__(self, "no grain waits in the house")


class NothingDone(DoorError):
    """Nothing is left to be taken back."""

    def __init__(self):
        DoorError.__init__(self, "nothing is left to be taken back")


class NoChances(DoorError):
    """These are no chances of the steps of the web."""

    def __init__(self):
        DoorError.__init__(self, "these are no chances of the steps of the web")


class NoRounds(DoorError):
    """These are no rounds of the web."""

    def __init__(self):
        DoorError.__init__(self, "these are no rounds of the web")


class NoLine(DoorError):
    """This is no line for the desk."""

    def __init__(self):
        DoorError.__init__(self, "this is no line for the desk")


class BadText(DoorError):
    """A text is wrong in this line."""

    def __init__(self, line):
        DoorError.__init__(self, "the text is wrong in a line")
        self.line = line


class NoName(DoorError):
    """There is no web of this name."""

    def __init__(self, name):
        DoorError.__init__(self, "there is no web of this name")
        self.name = name
