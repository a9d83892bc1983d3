"""The refusals: each has a class of its own, straight under FarError."""


class FarError(ValueError):
    """Any refusal."""


class NoPoint(FarError):
    """What was handed in for a point is none, or none that may stand there."""


class NoLot(FarError):
    """What was handed in for a lot is none, or none that may stand there."""


class NoNumber(FarError):
    """What was handed in for a number is none, or none that may stand there."""


class NoCircle(FarError):
    """Three points lie on one straight line."""


class NoMarks(FarError):
    """What was handed in for marks is none."""


class NoFars(FarError):
    """What was handed in for fars is none."""


class NoText(FarError):
    """What was handed in for the text of a lot writes none."""


class NoLine(FarError):
    """What was told to a desk is no line."""


class NoDeed(FarError):
    """A deed cannot be done as the desk stands."""


class Alike(FarError):
    """A lot is not unlike: one is as far from two as three from four."""

    def __init__(self, one, two, three, four):
        self.one = one
        self.two = two
        self.three = three
        self.four = four


class TooMany(FarError):
    """There would be many where there may be most."""

    def __init__(self, many, most):
        self.many = many
        self.most = most
