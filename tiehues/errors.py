"""All that the program refuses, each with its own name."""


class TieError(ValueError):
    """Any refusal."""


class NoNet(TieError):
    """What should be a net is none."""


class OtherNet(TieError):
    """The net is of a kind for which the answer isn't told."""


class NoWay(TieError):
    """What should be a way is none: at is its number, None where it has none."""

    def __init__(self, at):
        TieError.__init__(self, f"no way: {at}")
        self.at = at


class TooMany(TieError):
    """There are more than the answer is told for."""


class NoHues(TieError):
    """What should be right hues are none: place tells where, None where that isn't told."""

    def __init__(self, place):
        TieError.__init__(self, f"no right hues: {place}")
        self.place = place


class NoCrossing(TieError):
    """What should be a crossing is none."""


class NoLot(TieError):
    """What should be an odd lot is none."""


class NoPlace(TieError):
    """The net has no such place."""


class NoNumber(TieError):
    """What should be a number from 0 on is none."""


class NoTurning(TieError):
    """What should be a turning is none."""


class NoTie(TieError):
    """The net has no such tie."""


class NoText(TieError):
    """The text isn't of the form told: row is the number of its first wrong row."""

    def __init__(self, row):
        TieError.__init__(self, f"no such text: row {row}")
        self.row = row


class NoRow(TieError):
    """The desk knows no row of this form."""


class NoName(TieError):
    """What should be a name is none, or no net stands by it."""


class NoForm(TieError):
    """What should be told as words has another form."""
